import Derived.Conc.Listed
import Derived.Test.YtbephahokhnccaaGreatDoorJ0
set_option linter.all false
set_option maxHeartbeats 4000000
namespace Go.Lift
variable{a:Addr}{es:aA}{F:yg}{fr:Frame}{y x:GStep}{cw frs:eX}{B r n l:Nat}{o:Obj}{P p:K5}{w v x' y' w':WR}
def MI{Z:dX}(t:Fh)(x:vZ)(l:List MapEntry):Lk P F Z (Instr.findKey t x l):=by unfold Instr.findKey;exact eU
def TL{Z:dX}(t:Fh)(x y:vZ)(b:Bool):Lk P F Z (Instr.lookup t x y b):=by unfold Instr.lookup;exact eU
def wF{Z:dX}(x y:vZ):Lk P F Z (Instr.keyThatStays x y):=by unfold Instr.keyThatStays;exact eU
def rM{Z:dX}(t:Fh)(x y z:vZ):Lk P F Z (Instr.mapUpdate t x y z):=by unfold Instr.mapUpdate;exact eU
def TM{q D:Type}{Z:dX}{x:Sem q}{f:q->Sem D}{Q:q->Prop}(s:Lk P F Z x)(y:∀w a w',x.run (strip P F) w=.ok a w'->Q a)(A:∀a,Q a->Lk P F Z (f a)):Lk P F Z (x>>=f):=by
 refine⟨fun w v es B r u n o=>?_⟩;by_cases m:∃a i,x.run (strip P F) v=.ok a i
 .have⟨a,i,m⟩:=m;have p:=y v a i m;show HH ((x.bind f).run (strip P F) v)\/(Alike Z w v ((x.bind f).run P w) ((x.bind f).run (strip P F) v)/\cV Z B ((x.bind f).events P w es));have c:fA w v (tC ((x.bind f).run P w)).drawn:=n;have e:(tC ((x.bind f).run P w)).heap.size<=B:=o;rw[Sem.run_bind'] at c e;rw[Sem.run_bind',Sem.run_bind',Sem.events_bind'];have d:(tC (x.run P w)).drawn<=(tC ((x.run P w).andThen fun a w'=>(f a).run P w')).drawn/\(tC (x.run P w)).heap.size<=(tC ((x.run P w).andThen fun a w'=>(f a).run P w')).heap.size:=by
   cases x.run P w with
   |ok a w'=>exact⟨(fT P (f a) w').drawn,(fT P (f a) w').size⟩
   |halt h w'=>exact⟨aAz _,aAz _⟩
  have h:=s.ok w v es B r u (c.less d.1) (aAw d.2 e);clear d n o;rw[m] at h⊢;revert c e h;cases z:x.run P w with
  |ok b w'=>
   intro n o h;rcases h with h| ⟨⟨rfl,g⟩,j⟩
   .exact h.elim
   .exact((A b p).ok w' i _ B g.rel j (fA.on g n) o).imp id fun t=>⟨t.1.on g,t.2⟩
  |halt k w'=>
   intro _ _ h;rcases h with h| ⟨h,_⟩
   .exact h.elim
   .exact h.elim
 .show HH ((x.bind f).run (strip P F) v)\/(Alike Z w v ((x.bind f).run P w) ((x.bind f).run (strip P F) v)/\cV Z B ((x.bind f).events P w es));have c:fA w v (tC ((x.bind f).run P w)).drawn:=n;have e:(tC ((x.bind f).run P w)).heap.size<=B:=o;rw[Sem.run_bind'] at c e;rw[Sem.run_bind',Sem.run_bind',Sem.events_bind'];have d:(tC (x.run P w)).drawn<=(tC ((x.run P w).andThen fun a w'=>(f a).run P w')).drawn/\(tC (x.run P w)).heap.size<=(tC ((x.run P w).andThen fun a w'=>(f a).run P w')).heap.size:=by
   cases x.run P w with
   |ok a w'=>exact⟨(fT P (f a) w').drawn,(fT P (f a) w').size⟩
   |halt h w'=>exact⟨aAz _,aAz _⟩
  have h:=s.ok w v es B r u (c.less d.1) (aAw d.2 e);cases l:x.run (strip P F) v with
  |ok a i=>exact absurd ⟨a,i,l⟩ m
  |halt k i=>
   rw[l] at h;revert h;cases z:x.run P w with
   |ok b w'=>
    intro h;rcases h with h| ⟨h,_⟩
    .exact .inl h
    .exact h.elim
   |halt E w'=>
    intro h;rcases h with h| ⟨⟨rfl,C,g⟩,j⟩
    .exact .inl h
    .exact .inr ⟨⟨rfl,C,g⟩,j⟩
def xW{a b:Type}(s:String)(f:a->Sem b):((stuck s:Sem a)>>=f)=stuck s:=rfl
def YN{Z:dX}(t:Fh)(x:vZ):Lk P F Z (Instr.range t x):=by
 unfold Instr.range;refine aX (dG _) fun d=>?_;split
 .simp only[pure_bind];exact aX (TI _ _) fun _=>aY _
 .simp only[pure_bind];exact aX (xS _ _ _ _) fun _=>aY _
 .dsimp only;refine CF (fun o _=>?_) (mM (fun _ _=>?_) ?_)
  .cases o<;>first
    | (simp only[xW];exact aW _)
    | (simp only[pure_bind];exact aX (xS _ _ _ _) (fun _=>aY _))
  .exact fun _=>trivial
  .exact fun _=>trivial
 .simp only[xW];exact aW _
def nq{Z:dX}(x:vZ)(b:Bool)(t:Fh):Lk P F Z (Instr.next x b t):=by
 unfold Instr.next
 exact eU
def YO{Z:dX}(x:vZ):Lk P F Z (Instr.entry x):=by unfold Instr.entry;exact eU
def HS{Z:dX}(o:BinOp)(k:IntKind)(x y:Int):Lk P F Z (Op.intArith o k x y):=by unfold Op.intArith;exact eU
def TE{Z:dX}(o:BinOp)(k:IntKind)(x y:Int):Lk P F Z (Op.intDiv o k x y):=by unfold Op.intDiv;exact eU
def MK{Z:dX}(o:BinOp)(k:IntKind)(x y:Int):Lk P F Z (Op.intBits o k x y):=by unfold Op.intBits;exact eU
def YC{Z:dX}(o:BinOp)(k:IntKind)(x:Int)(l:IntKind)(y:Int):Lk P F Z (Op.shift o k x l y):=by unfold Op.shift;exact eU
def TD{Z:dX}(o:BinOp)(x y:Int):Lk P F Z (Op.intCmp o x y):=by unfold Op.intCmp;exact eU
def HW{Z:dX}(o:BinOp)(x y:Lp):Lk P F Z (Op.stringOp o x y):=by unfold Op.stringOp;exact eU
def YP{Z:dX}(o:UnOp)(x:vZ):Lk P F Z (Op.unary o x):=by unfold Op.unary;exact eU
def AV{Z:dX}(o:BinOp)(k:FloatKind)(x y:Nat):Lk P F Z (Op.floatArith o k x y):=by unfold Op.floatArith;exact eU
def HU{Z:dX}(o:BinOp)(k:FloatKind)(x y:Nat):Lk P F Z (Op.floatCmp o k x y):=by unfold Op.floatCmp;exact eU
def YB{Z:dX}(x:vZ):Lk P F Z (Builtin.lenOf x):=by unfold Builtin.lenOf;exact eU
def zd{Z:dX}(t:Array Fh)(u:Fh)(x:Ff):Lk P F Z (Builtin.len_ t u x):=by unfold Builtin.len_;exact eU
def AT{Z:dX}(n m:Nat)(x:vZ):Lk P F Z (Builtin.firstCells n m x):=by unfold Builtin.firstCells;exact eU
def ns{Z:dX}(t:Array Fh)(u:Fh)(x:Ff):Lk P F Z (Builtin.copy_ t u x):=by unfold Builtin.copy_;exact eU
def NA{Z:dX}(o:BinOp)(t:Fh)(x y:Operand)(a b:vZ):Lk P F Z (eqGuard o t x y a b):=by unfold eqGuard;exact eU
def xX(r:Nat)(w:WR):∃x,(viewAt r).run P w=(match w.heap[r]? with
  |none=>.halt (.stuck "getObj: no such block") w
  |some _=>.ok x w)/\(x.isSome=match w.heap[r]? with|some (.view ..)=>true|_=>false):=by
 cases h:w.heap[r]? with
 |none=>exact⟨none,by simp[viewAt,shape,Go.getObj,Sem.run,World.shape?,h],rfl⟩
 |some o=>cases o<;>first|exact⟨none,by simp[viewAt,shape,Go.getObj,Sem.run,World.shape?,h],rfl⟩|exact⟨some (_,_),by simp[viewAt,shape,Go.getObj,Sem.run,World.shape?,h];exact⟨rfl,rfl⟩,rfl⟩
def TN(r:Nat)(w:WR)(es:aA):(viewAt r).events P w es=match w.heap[r]? with
  |none=>es
  |some (.cells ..)=>es
  |some o=>es.push ⟨.obj r,false,o.isChan⟩:=by
 cases h:w.heap[r]? with
 |none=>simp[viewAt,shape,Go.getObj,World.shape?,h,Sem.events,Sem.runT, -Sem.runT_eq,bind,Sem.bind]
 |some o=>cases o<;>simp[viewAt,shape,Go.getObj,World.shape?,h,Sem.events,Sem.runT, -Sem.runT_eq,bind,Sem.bind,pure]
def IG{A:Type}{Z:dX}{f:Bool->Sem A}(h:∀b,Lk P F Z (f b)):Lk P F Z (viewAt r>>=fun x=>f x.isSome):=by
  refine⟨fun w v es B j n c a=>?_⟩;have l:=j.look r;have m:∀o,w.heap[r]?=some o->r<B:=fun o z=>aAy (aAu.1 z).1 (aAw (fT P _ w).size a);show HH (((viewAt r).bind fun x=>f x.isSome).run (strip P F) v)\/(Alike Z w v (((viewAt r).bind fun x=>f x.isSome).run P w) (((viewAt r).bind fun x=>f x.isSome).run (strip P F) v)/\cV Z B (((viewAt r).bind fun x=>f x.isSome).events P w es));have g:fA w v (tC (((viewAt r).bind fun x=>f x.isSome).run P w)).drawn:=c;have d:(tC (((viewAt r).bind fun x=>f x.isSome).run P w)).heap.size<=B:=a;rw[Sem.run_bind'] at g d;rw[Sem.run_bind',Sem.run_bind',Sem.events_bind',TN];have⟨x,ex,k⟩:=xX (P:=P) r w;have⟨y,u,i⟩:=xX (P:=strip P F) r v;rw[ex] at g d;rw[ex,u];revert l m g d k i;clear ex u c a;generalize w.heap[r]?=p;generalize v.heap[r]?=q;intro l m a c k i;cases l with
  |gP _=>
    have e:y.isSome=x.isSome:=by rw[k,i]
    simp only[Result.andThen_ok,Result.evThen_ok,e] at c a⊢;exact(h x.isSome).ok w v es B j n c a
  | @shut o _ t s _=>
    have e:y.isSome=x.isSome:=by rw[k,i];cases o<;>first|exact absurd trivial s|rfl
    cases o<;>first
      |exact absurd trivial t
      |exact absurd trivial s
      | (simp only[Result.andThen_ok,Result.evThen_ok,e] at c a⊢
         exact(h x.isSome).ok w v _ B j (dL n (show Clean Z B ⟨.obj r,_,_⟩ from m _ rfl)) c a)
  | @view o C t s=>
    cases o<;>first|exact t.elim|skip
    cases C<;>first|exact s.elim|skip
    have e:y.isSome=x.isSome:=by rw[k,i]
    simp only[Result.andThen_ok,Result.evThen_ok,e] at c a⊢;exact(h x.isSome).ok w v _ B j (dL n (show Clean Z B ⟨.obj r,_,_⟩ from m _ rfl)) c a
  |same t=>
    cases p with
    |none=>exact .inl trivial
    |some o=>
      have e:y.isSome=x.isSome:=by rw[k,i]
      cases o<;>first
        | (simp only[Result.andThen_ok,Result.evThen_ok,e] at c a⊢
           exact(h x.isSome).ok w v es B j n c a)
        | (simp only[Result.andThen_ok,Result.evThen_ok,e] at c a⊢
           exact(h x.isSome).ok w v _ B j (dL n (show Clean Z B ⟨.obj r,_,_⟩ from m _ rfl)) c a)
def TO{g:Type}{Z:dX}{k:Option (Fh×Nat)->Sem g}(f:∀e,kW (strip P F) (k (some (e,0))))(j:∀s,Lk P F Z (k s)):Lk P F Z (shape r>>=k):=by
 refine⟨fun w v es B c p m n=>?_⟩;have h:=(j (w.shape? r)).ok w v es B c p m n;show HH ((k (v.shape? r)).run (strip P F) v)\/(Alike Z w v ((k (w.shape? r)).run P w) ((k (v.shape? r)).run (strip P F) v)/\cV Z B ((k (w.shape? r)).events P w es));have l:=c.look r;have e:(∃e,v.shape? r=some (e,0))\/v.shape? r=w.shape? r:=by
  unfold World.shape?;revert l;generalize w.heap[r]?=x;generalize v.heap[r]?=y;intro l;cases l with
  |gP _=>exact .inl ⟨_,rfl⟩
  | @shut o _ a _ _=>cases o<;>first|exact absurd trivial a|exact .inr rfl
  | @view o i a d=>cases o<;>first|exact a.elim| (cases i<;>first|exact d.elim|exact .inr rfl)
  |same _=>exact .inr rfl
 rcases e with⟨e,b⟩|b
 .left;rw[b];exact f e v
 .rw[b];exact h
def EP{Z:dX}(a:Addr)(l:Bool):Lk P F Z (newObj (.number a l)):=⟨jR ⟨id,trivial⟩ (fun r=>cW r)⟩
section
variable{P:K5}{F:yg}
theorem lJ:∀(d:Nat) (e:Fh) (n:Nat),cellOfByte (strip P F) d e n=cellOfByte P d e n
 |0,_,_=>rfl
 |d+1,e,n=>by have a:cellOfByte (strip P F) d=cellOfByte P d:=funext fun e=>funext fun n=>lJ d e n;simp only[cellOfByte,a];rfl
end
def rN(d:Nat)(e:Fh)(c o:Nat)(b:Int):cellAtBytes (strip P F) d e c o b=cellAtBytes P d e c o b:=by simp only[cellAtBytes,iH,lJ];rfl
def tQ(d:Nat)(e:Fh)(o:Nat)(b:Int)(c:0<=b):cellAtBytes P d e 0 o b=none:=by
 unfold cellAtBytes;simp only[aCy,bind,Option.bind];split
 .rfl
 .split
  .rfl
  .rename_i a _;have:(decide (Int.ofNat (o / P.cellsOf e*P.bytesOf e+a)+b<0)||decide (Int.ofNat (o / P.cellsOf e*P.bytesOf e+a)+b≥Int.ofNat 0))=true:=by simp only[Bool.or_eq_true,decide_eq_true_eq];right;have:(0:Int)<=Int.ofNat (o / P.cellsOf e*P.bytesOf e+a):=aCn _;show(0:Int)<=_;omega
   simp only[this,if_true]
def TP{a:Type}{Z:dX}{A B:Sem a}(d:Lk P F Z A)(c:Lk P F Z B):Lk P F Z (viewAt r>>=fun x=>if x.isSome=true then A else B):=
 IG (f:=fun b=>if b=true then A else B) (fun b=>by cases b<;>assumption)
def rF{Z:dX}(t:Array Fh)(u:Fh)(p:yj)(y:vZ):Lk P F Z (Builtin.unsafeAdd_ t u #[.pointer p,y]):=by
 unfold Builtin.unsafeAdd_;dsimp only;refine aX (iT _) fun n=>?_;split
 .split
  .exact TP (aX (bO _) (fun _=>aY _)) (aY _)
  .exact bO _
 .rename_i a;split
  .exact bO _
  .rename_i b;split
   .refine TO (fun e v=>?_) fun s=>?_
    .dsimp only;simp only[Sem.run_bind,program,Sem.run,Result.andThen_ok,Nat.zero_div,tQ _ _ _ n oM];trivial
    .split
     .refine cQ ?_ ?_
      .simp only[rN];rfl
      .split
       .exact aY _
       .exact bO _
     .exact bO _
   .exact bO _
def AU{Z:dX}(t:Array Fh)(u:Fh)(x y:vZ):Lk P F Z (Builtin.unsafeAdd_ t u #[x,y]):=by cases x<;>first|exact rF _ _ _ _|exact aW "unsafe.Add: a pointer and an integer expected"
def HT{Z:dX}(a:Addr)(b:Bool):Lk P F Z (asNumber a b):=by unfold asNumber;exact eU
def xO{Z:dX}(t:Fh)(x y:vZ):Lk P F Z (movedNumber t x y):=by unfold movedNumber;exact eU
def wH{Z:dX}(t:Fh)(x y:vZ):Lk P F Z (movedPointer t x y):=by unfold movedPointer;exact eU
def ER{Z:dX}(a b:Addr):Lk P F Z (Op.twoPlaces a b):=by unfold Op.twoPlaces;exact eU
def MO{Z:dX}(k:IntKind)(a b:Addr):Lk P F Z (Op.addrSub k a b):=by unfold Op.addrSub;exact eU
def MN{Z:dX}(o:BinOp)(a b:Addr):Lk P F Z (Op.addrCmp o a b):=by unfold Op.addrCmp;exact eU
def MM{Z:dX}(k:IntKind)(a:Addr)(n:Int):Lk P F Z (Op.addrMod k a n):=by unfold Op.addrMod;exact eU
def wG{Z:dX}(k:FloatKind)(n:Nat)(l:FloatKind):Lk P F Z (Conv.floatToFloat k n l):=by unfold Conv.floatToFloat;exact eU
def nN{Z:dX}(o:BinOp)(k:FloatKind)(x y:Nat):Lk P F Z (Op.Complex.arith o k x y):=by unfold Op.Complex.arith;exact eU
def y8{Z:dX}(o:BinOp)(k:FloatKind)(x y:Nat):Lk P F Z (Op.Complex.cmp o k x y):=by unfold Op.Complex.cmp;exact eU
def np{Z:dX}(k:FloatKind)(x:Nat)(l:FloatKind):Lk P F Z (Op.Complex.conv k x l):=by
 unfold Op.Complex.conv
 exact eU
def nj{Z:dX}(x y:Nat):Lk P F Z (Op.Complex.add x y):=nN _ _ _ _
def nh{Z:dX}(x y:Nat):Lk P F Z (Op.Complex.sub x y):=nN _ _ _ _
def nf{Z:dX}(x y:Nat):Lk P F Z (Op.Complex.mul x y):=nN _ _ _ _
def nk{Z:dX}(x y:Nat):Lk P F Z (Op.Complex.quo x y):=nN _ _ _ _
def ML{Z:dX}(a b c d:Nat):Lk P F Z (Op.Complex.product a b c d):=by unfold Op.Complex.product;exact eU
def ES{Z:dX}(s a b c d:Nat):Lk P F Z (Op.Complex.corrected s a b c d):=by unfold Op.Complex.corrected;exact eU
def HV{Z:dX}(a b c d:Nat):Lk P F Z (Op.Complex.quotient a b c d):=by unfold Op.Complex.quotient;exact eU
def ET{Z:dX}(o:BinOp)(k:FloatKind)(a b c d:Nat):Lk P F Z (Op.complexOp o k a b c d):=by unfold Op.complexOp;exact eU
def YQ{Z:dX}(o:BinOp)(t:Fh)(x y:vZ):Lk P F Z (binOp o t x y):=by unfold binOp;exact eU
def kX{b:Type}{Z:dX}{c:Prop}[Decidable c]{x y:Sem b}(d:Lk P F Z x)(a:Lk P F Z y):Lk P F Z (if c then x else y):=by
 by_cases h:c
 .rw[if_pos h];exact d
 .rw[if_neg h];exact a
def AZ{a:Type}(P:K5)(s:Sem a):Prop:=∀w,∃r,s.run P w=.ok r w/\∀es,s.events P w es=es
def lK{b:Type}(a:b):AZ P (pure a:Sem b):=fun _=>⟨a,rfl,fun _=>rfl⟩
def TQ(r:Nat):AZ P (shape r):=fun w=>⟨w.shape? r,rfl,fun _=>rfl⟩
def NB(a:Addr):AZ P (frozen a):=fun w=>⟨w.frozen? a,rfl,fun _=>rfl⟩
def lL{c d:Type}{x:Sem c}{f:c->Sem d}(j:AZ P x)(e:∀a,AZ P (f a)):AZ P (x>>=f):=by intro w;have⟨r,b,i⟩:=j w;have⟨h,k1,g⟩:=e r w;exact⟨h,by rw[Sem.run_bind,b];exact k1,fun es=>by rw[Sem.events_bind,b,i];exact g es⟩
def CH(a:Addr)(n:Nat):AZ P (Builtin.holdsCells a n):=by unfold Builtin.holdsCells;refine lL (TQ _) fun s=>?_;split<;>exact lK _
def TR(a b c:Nat)(d:yj)(x:vZ):AZ P (Builtin.mayShare a b c d x):=by
 have fin:∀t:Bool,AZ P (if(!t)=true then(pure true:Sem Bool) else
    match x with
    |Value.slice (some q) _ _=>do
     let r<-Builtin.holdsCells q (c*a)
     pure (!r||Option.any (fun x=>x.block==q.block) d)
    |_=>pure false):=by
  intro t;split
  .exact lK _
  .split
   .exact lL (CH _ _) fun _=>lK _
   .exact lK _
 unfold Builtin.mayShare;dsimp only;split
 .exact lL (lK _) fin
 .exact lL (CH _ _) fun _=>lL (NB _) (fun _=>lL (lK _) fin)
def NC{b k:Type}{Z:dX}{x:Sem b}{f:b->Sem k}{h:Halt}(i:EK h)(c:∀R:K5,AZ R x)(g:∀(R:K5) a w,(f a).run R w=.halt h w)(l:∀a w es B,cV Z B es->cV Z B ((f a).events P w es)):Lk P F Z (x>>=f):=by refine IB fun w v es B j m o=>?_;have⟨r,e,d⟩:=c P w;have⟨n,k1,_⟩:=c (strip P F) v;rw[Sem.run_bind,Sem.run_bind,Sem.events_bind,e,k1,d];simp only[Result.andThen_ok,Result.evThen_ok,g];exact .inr ⟨⟨rfl,i,.refl j⟩,l r w es B m⟩
def HY{f:Type}{Z:dX}(a b c:Nat)(d:yj)(x:vZ)(s:String):Lk P F Z (Builtin.mayShare a b c d x>>=fun r=>if(!r)=true then(mark .noRoom>>=fun _=>(unsupported (.resourceLimit s):Sem f)) else unsupported (.resourceLimit s)):=by
 refine NC (h:=.unsupported (.resourceLimit s)) trivial (fun R=>TR _ _ _ _ _) (fun R r w=>?_) fun r w es B e=>?_
 .cases r<;>rfl
 .cases r
  .exact dL e (show Clean Z B ⟨.mark .noRoom,_,_⟩ from .inr rfl)
  .exact e
def TS{Z:dX}(t:Array Fh)(u:Fh)(x:Ff):Lk P F Z (Builtin.append_ t u x):=by unfold Builtin.append_;exact eU
def IH{n:Type}{Z:dX}{m:Mode}{k:vZ->Sem n}(r:¬Z a.block->∀x,Lk P F Z (k x)):Lk P F Z (load a m>>=k):=by
 refine⟨fun w v es B g z t u=>?_⟩;by_cases j:Z a.block
 .have A:=g.look a.block;rcases g.ways a.block with⟨⟨e,b⟩,_⟩|b| ⟨C,b,f⟩| ⟨b,f,h3⟩
  .have⟨d,c,_⟩:=qZ (Q:=strip P F) b (m==.atomic);left;show HH ((Sem.load m a k).run (strip P F) v);simp only[Sem.run,d,c];trivial
  .have⟨d,c,_⟩:=xK (Q:=strip P F) b (m==.atomic);left;show HH ((Sem.load m a k).run (strip P F) v);simp only[Sem.run,d,c];trivial
  .have⟨d,s,c⟩:=xI (Q:=strip P F) (m:=m==.atomic) b f;left;show HH ((Sem.load m a k).run (strip P F) v);simp only[Sem.run,d,c];trivial
  .have p:∀x,w.cell? a≠some x:=fun x i=>let⟨o,y,q⟩:=qG i;h3 o y q j
   have h:w.cell? a=none:=by
    cases i:w.cell? a with
    |none=>rfl
    |some x=>exact absurd i (p x)
   left;show HH ((Sem.load m a k).run (strip P F) v);simp only[Sem.run,tI b,h,oS (w:=v) (P:=strip P F) (b▸f),mJ (Z:=Z) (fun o l=>⟨f o (b▸l),g.code _ o l⟩)];trivial
 .exact(BX (k:=k) (fun x=>(r j x).ok)) w v es B g z t u
def CI{Z:dX}(e:¬Z a.block):Lk P F Z (freeze a n):=by
 refine IB fun w v es B c d f=>?_;show HH (Result.ok () (v.freeze a n))\/(Alike Z w v (Result.ok () (w.freeze a n)) (Result.ok () (v.freeze a n))/\cV Z B es);refine .inr ⟨⟨rfl,?_⟩,d⟩;unfold World.freeze;split
 .exact .refl c
 .exact⟨c.modify e (fun o b=>by cases o<;>first|rfl|exact absurd trivial b) (fun o b=>by cases o<;>first|exact trivial|exact b.elim),rfl,rfl,aAz _,sI,by show v.drawn=v.drawn+(w.drawn - w.drawn);omega,.modify c (fun o b=>by cases o<;>first|rfl|exact absurd trivial b) (fun o b=>by cases o<;>first|exact trivial|exact b.elim)⟩
section
variable{P:K5}{F:yg}{Z:dX}
theorem rO:∀(n:Nat) (a:Addr) (b:Lp),Lk P F Z (loadBytes a b n)
 |0,_,_=>aY _
 |n+1,a,b=>by
  unfold loadBytes;refine aX (EN _ _) fun x=>?_;split
  .exact rO n _ _
  .exact aW _
end
def xY{Z:dX}(n m:Nat)(a:Addr)(b:Lp):Lk P F Z (loadBytes a b (n+1)>>=fun s=>freeze a m>>=fun _=>pure (Value.string s)):=by
 unfold loadBytes;rw[bind_assoc];refine IH fun c x=>?_;split
 .exact aX (rO _ _ _) fun _=>aX (CI c) (fun _=>aY _)
 .exact aW _
def EW{g:Type}{Z:dX}{k:Option (Fh×Nat)->Sem g}(f:∀e (v:WR),v.heap[r]?=some (.cells #[] e)->HH ((k (some (e,0))).run (strip P F) v))(j:∀s,Lk P F Z (k s)):Lk P F Z (shape r>>=k):=by
 refine⟨fun w v es B c p m n=>?_⟩;have h:=(j (w.shape? r)).ok w v es B c p m n;show HH ((k (v.shape? r)).run (strip P F) v)\/(Alike Z w v ((k (w.shape? r)).run P w) ((k (v.shape? r)).run (strip P F) v)/\cV Z B ((k (w.shape? r)).events P w es));have l:=c.look r;have e:(∃e,v.heap[r]?=some (.ce #[] e)/\v.shape? r=some (e,0))\/v.shape? r=w.shape? r:=by
  unfold World.shape?;revert l;generalize w.heap[r]?=x;generalize v.heap[r]?=y;intro l;cases l with
  |gP _=>exact .inl ⟨_,rfl,rfl⟩
  | @shut o _ a _ _=>cases o<;>first|exact absurd trivial a|exact .inr rfl
  | @view o i a d=>cases o<;>first|exact a.elim| (cases i<;>first|exact d.elim|exact .inr rfl)
  |same _=>exact .inr rfl
 rcases e with⟨e,a,b⟩|b
 .left;rw[b];exact f e v a
 .rw[b];exact h
section
variable{P:K5}{F:yg}
theorem lM:∀(d:Nat) (t u:Fh),sameLayout (strip P F) d t u=sameLayout P d t u
 |0,_,_=>rfl
 |d+1,t,u=>by have a:sameLayout (strip P F) d=sameLayout P d:=funext fun t=>funext fun u=>lM d t u;simp only[sameLayout,a,gR (P:=P) (F:=F)];rfl
end
section
variable{P:K5}{F:yg}
theorem vG(f:Fh->Bool):∀(d:Nat) (e:Fh) (a b c:Nat),rowAt (strip P F) f d e a b c=rowAt P f d e a b c
 |0,_,_,_,_=>rfl
 |d+1,e,a,b,c=>by have g:rowAt (strip P F) f d=rowAt P f d:=funext fun e=>funext fun a=>funext fun b=>funext fun c=>vG f d e a b c;simp only[rowAt,g,gR (P:=P) (F:=F)];rfl
end
section
variable{P:K5}{F:yg}
theorem rP:∀(d:Nat) (e:Fh) (a b:Nat) (u:Fh) (n:Nat),liesAt (strip P F) d e a b u n=liesAt P d e a b u n
 |0,_,_,_,_,_=>rfl
 |d+1,e,a,b,u,n=>by have c:liesAt (strip P F) d=liesAt P d:=funext fun e=>funext fun a=>funext fun b=>funext fun u=>funext fun n=>rP d e a b u n;simp only[liesAt,c,vG,lM,kK (P:=P) (F:=F)];rfl
end
def EX{i:Type}{Z:dX}{e:Fh}{A B:Sem i}(d:Lk P F Z A)(c:Lk P F Z B)(f:∀(e:Fh) (v:WR),v.heap[a.block]?=some (.cells #[] e)->HH (A.run (strip P F) v))(h:kW (strip P F) B):
  Lk P F Z (variablesAt a e n>>=fun b=>if b=true then A else B):=by
 unfold variablesAt;rw[bind_assoc];refine cQ ?_ ?_
 .simp only[rP,kK (P:=P) (F:=F)];rfl
 .rw[bind_assoc];refine EW (fun j v g=>?_) fun s=>?_
  .simp only[pure_bind];split
   .exact f j v g
   .exact h v
  .split
   .rw[pure_bind];exact kX d c
   .rw[pure_bind];exact kX d c
def II{g m:Type}{Z:dX}{x:Sem g}{f:g->Sem m}(l:Lk P F Z x)(d:∀(R:K5) (w:WR),∃h w',x.run R w=.halt h w'):Lk P F Z (x>>=f):=by
 refine⟨fun w v es B j p n o=>?_⟩;have⟨h,w',e⟩:=d P w;have⟨k,q,c⟩:=d (strip P F) v;have a:fA w v (tC ((x>>=f).run P w)).drawn:=n;have b:(tC ((x>>=f).run P w)).heap.size<=B:=o;rw[Sem.run_bind,e] at a b;have:=l.ok w v es B j p (by rw[e];exact a) (by rw[e];exact b);rw[e,c] at this;rw[Sem.run_bind,Sem.run_bind,Sem.events_bind,e,c];rcases this with t| ⟨t,i⟩
 .exact .inl t
 .exact .inr ⟨⟨t.1,t.2.1,t.2.2⟩,i⟩
def panics{f:Type}(e:RuntimeError)(R:K5)(w:WR):∃h w',(runtimePanic e:Sem f).run R w=.halt h w':=by
 have b:∀{d:Type} (x:Sem d) (g:d->Sem f),(∀a w,∃h w',(g a).run R w=.halt h w')->∀w,∃h w',(x>>=g).run R w=.halt h w':=by
  intro d x g j w;rw[Sem.run_bind];cases x.run R w with
  |ok a w'=>exact j a w'
  |halt h w'=>exact⟨h,w',rfl⟩
 unfold runtimePanic;refine b _ _ (fun p w=>?_) w;dsimp only;cases e with
 |typeAssertion i c a m=>exact b _ _ (fun _ w=>b _ _ (fun _ w=>⟨_,w,rfl⟩) w) w
 |panicNil=>exact b _ _ (fun _ w=>b _ _ (fun _ w=>⟨_,w,rfl⟩) w) w
 |_=>exact⟨_,w,rfl⟩
def mL{a b:Type}{Z:dX}(e:RuntimeError)(f:a->Sem b):Lk P F Z ((runtimePanic e:Sem a)>>=f):=II (bS e) (panics e)
def wJ{Z:dX}(t:Array Fh)(u:Fh)(p:yj)(y:vZ):Lk P F Z (Builtin.unsafeString_ t u #[.pointer p,y]):=by
 unfold Builtin.unsafeString_;dsimp only;refine aX (iT _) fun n=>?_;split
 .split
  .exact mL _ _
  .rename_i j;split
   .exact bO _
   .split
    .exact kX (aY _) (bS _)
    .split
     .exact aY _
     .rename_i a h;obtain⟨m,c⟩:∃m,n.toNat=m+1:=⟨n.toNat - 1,oM⟩;rw[c];refine aX (CB _) fun e=>EX (xY _ _ _ _) (bO _) (fun i v g=>?_) (fun _=>trivial);have⟨d,b,_⟩:=qZ (Q:=strip P F) (a:=a) g false;unfold loadBytes;simp only[Sem.run_bind,load,Sem.run,d,Go.Result.andThen];have f:v.farLoad (strip P F) a (Mode.plain==Mode.atomic)=.error (.stuck "load: no such cell"):=b;simp only[f];trivial
 .exact aW _
def MP{Z:dX}(t:Fh)(x:Place):Lk P F Z (x.get t):=by
 cases x
 .exact aY _
 .exact qH _ _
section
variable{P:K5}{F:yg}{Z:dX}
theorem tK:∀(l:List FieldStep) (t:Fh) (x:Place),Lk P F Z (follow l t x)
 | [],_,_=>aY _
 |s::l,t,x=>by
  have a:=tK l;unfold follow;repeat' first
   |assumption
   | (with_reducible exact a _ _)
   | (with_reducible exact MP _ _)
   | (with_reducible exact pS _ _)
   | (with_reducible exact tJ _)
   | (with_reducible exact oV _ _ _)
   | (with_reducible exact dG _)
   | (with_reducible exact aW _)
   | (with_reducible exact aY _)
   | (with_reducible refine kX ?_ ?_)
   | (with_reducible refine aX ?_ (fun _=>?_))
   |split
   |dsimp only
   |intro _
end
def ND{Z:dX}(t:Array Fh)(u:Fh)(x:vZ)(a b:Lp):Lk P F Z (Builtin.ssaWrapNilChk_ t u #[x,.string a,.string b]):=by
 unfold Builtin.ssaWrapNilChk_
 conv=>
  arg 4
  whnf
 dsimp only;exact pO
def HZ{Z:dX}(t:Array Fh)(u:Fh)(x:vZ)(a b:String):Lk P F Z (Builtin.ssaWrapNilChk_ t u #[x,strVal a,strVal b]):=ND _ _ _ _ _
def pU{Z:dX}(t:Fh)(x:Place)(b:Bool)(s:Option String):Lk P F Z (receiverAt t x b s):=by unfold receiverAt;exact eU
def xZ{Z:dX}(t:Fh)(x:vZ)(p:Array FieldStep)(b:Bool):Lk P F Z (receiverVia t x p b):=by unfold receiverVia;exact eU
section
variable{P:K5}{F:yg}{Z:dX}
theorem CJ:∀(n:Nat) (t:Fh) (x:vZ) (s:String),Lk P F Z (method n t x s)
 |0,_,_,_=>bO _
 |n+1,t,x,s=>by
  have a:=CJ n;unfold method;repeat' first
   |assumption
   | (with_reducible exact a _ _ _)
   | (with_reducible exact pU _ _ _ _)
   | (with_reducible exact tK _ _ _)
   | (with_reducible exact MP _ _)
   | (with_reducible exact bS _)
   | (with_reducible exact gK _)
   | (with_reducible exact aW _)
   | (with_reducible exact aY _)
   | (with_reducible refine aX ?_ (fun _=>?_))
   |split
   |dsimp only
   |intro _
end
section
variable{P:K5}{F:yg}{Z:dX}
theorem nP:∀(l:List FieldStep) (t:Fh) (x:Option vZ),Lk P F Z (followBlind l t x)
 | [],_,_=>aY _
 |s::l,t,x=>by
  have a:=nP l;unfold followBlind;repeat' first
   |assumption
   | (with_reducible exact a _ _)
   | (with_reducible exact oV _ _ _)
   | (with_reducible exact dG _)
   | (with_reducible exact aW _)
   | (with_reducible exact aY _)
   | (with_reducible refine aX ?_ (fun _=>?_))
   |split
   |dsimp only
   |intro _
end
section
variable{P:K5}{F:yg}{Z:dX}
theorem vH:∀(n:Nat) (t:Fh) (x:vZ) (s:String),Lk P F Z (nilAhead n t x s)
 |0,_,_,_=>aY _
 |n+1,t,x,s=>by
  have a:=vH n;unfold nilAhead;repeat' first
   |assumption
   | (with_reducible exact a _ _ _)
   | (with_reducible exact nP _ _ _)
   | (with_reducible exact dG _)
   | (with_reducible exact gK _)
   | (with_reducible exact aW _)
   | (with_reducible exact aY _)
   | (with_reducible refine aX ?_ (fun _=>?_))
   |split
   |dsimp only
   |intro _
end
def BA{Z:dX}(k:FloatKind)(n:Nat)(l:IntKind):Lk P F Z (Conv.floatToInt k n l):=by unfold Conv.floatToInt;exact eU
def MQ{Z:dX}(l:Nat):Lk P F Z (Instr.getLoop l):=by unfold Instr.getLoop;exact eU
def YS{Z:dX}(l:Nat)(x:Ff):Lk P F Z (Instr.yield l x):=by unfold Instr.yield;exact pO
def TU{Z:dX}(t:Array Fh)(u:Fh)(x:Ff):Lk P F Z (Builtin.delete_ t u x):=by unfold Builtin.delete_;exact eU
def YT{Z:dX}(t:Array Fh)(u:Fh)(x:Ff):Lk P F Z (Builtin.clear_ t u x):=by unfold Builtin.clear_;exact eU
def nt{Z:dX}(x y:vZ):Lk P F Z (Builtin.min2 x y):=by unfold Builtin.min2;exact eU
def nu{Z:dX}(x y:vZ):Lk P F Z (Builtin.max2 x y):=by unfold Builtin.max2;exact eU
section
variable{d:Type}{P:K5}{F:yg}{Z:dX}
theorem tR{e:Type}(f:d->e->Sem d)(h:∀a b,Lk P F Z (f a b)):∀(l:List e) (b:d),Lk P F Z (l.foldlM f b)
 | [],b=>by rw[List.foldlM_nil];exact aY _
 |c::l,b=>by rw[List.foldlM_cons];exact aX (h _ _) fun a=>tR f h l a
end
def ze{Z:dX}(t:Array Fh)(u:Fh)(x:Ff):Lk P F Z (Builtin.min_ t u x):=by
 unfold Builtin.min_;split
 .exact aW _
 .exact tR _ nt _ _
def zf{Z:dX}(t:Array Fh)(u:Fh)(x:Ff):Lk P F Z (Builtin.max_ t u x):=by
 unfold Builtin.max_;split
 .exact aW _
 .exact tR _ nu _ _
def tS{Z:dX}(x:vZ):Lk P F Z (Conv.bytesToString x):=by unfold Conv.bytesToString;exact eU
def NF{f:Type}{Z:dX}{Q:K5}{k:Nat->Sem f}(c:uY Z o)(d:∀r,¬Z r->iQ P Q Z (k r)):iQ P Q Z (.new o k):=by intro w v es B b i e g;have a:=On.push b c;simp only[Sem.run,b.size];exact(d w.heap.size (fun h=>aDb _ (b.low _ h)) _ _ es B a.rel i (fA.on a e) g).imp id fun t=>⟨t.1.on a,t.2⟩
def YU{d:Type}{Z:dX}{f:Nat->Sem d}(a:uY Z o)(b:∀r,¬Z r->Lk P F Z (f r)):Lk P F Z (newObj o>>=f):=⟨NF (k:=f) a (fun r c=>(b r c).ok)⟩
def EY{g:Type}{Z:dX}{k:Option (Fh×Nat)->Sem g}(b:¬Z r)(j:∀s,Lk P F Z (k s)):Lk P F Z (shape r>>=k):=by
 refine⟨fun w v es B c p m n=>?_⟩;have h:=(j (w.shape? r)).ok w v es B c p m n;show HH ((k (v.shape? r)).run (strip P F) v)\/(Alike Z w v ((k (w.shape? r)).run P w) ((k (v.shape? r)).run (strip P F) v)/\cV Z B ((k (w.shape? r)).events P w es));have l:=c.look r;have e:v.shape? r=w.shape? r:=by
  unfold World.shape?;revert l;generalize w.heap[r]?=x;generalize v.heap[r]?=y;intro l;cases l with
  |gP a=>exact absurd a b
  | @shut o a _ _ _=>exact absurd a b
  | @view o i f d=>cases o<;>first|exact f.elim| (cases i<;>first|exact d.elim|rfl)
  |same _=>rfl
 rw[e];exact h
def tU{Z:dX}(e:Fh)(s:Lp):Lk P F Z (Conv.stringToBytes e s):=by
 unfold Conv.stringToBytes;refine aX (oU _) fun cap=>?_;dsimp only;unfold newRow;rw[bind_assoc];refine YU ⟨id,trivial⟩ fun r a=>?_;rw[pure_bind];unfold markStringish;rw[bind_assoc];refine EY a fun x=>?_;split
 .exact aX (CI a) fun _=>aY _
 .exact aX (aY _) fun _=>aY _
section
variable {α β:Type} {P:K5} {F:yg} {Z:dX}
def zg:Option TypeDesc->Bool
 |some (.int .u8)=>true
 |_=>false
def YV(P:K5):Option TypeDesc->Option TypeDesc->Bool
 |some (.int _),some (.int _)=>true
 |some .string,some .string=>true
 |some .string,some (.slice e)=>zg (P.underlying e)
 |some (.slice e),some .string=>zg (P.underlying e)
 |_,_=>false
def jM(n:Nat):Builtin->Bool
 |.len|.append|.copy|.delete|.clear|.min|.max=>true
 |.unsafeString=>n==2
 |_=>false
def NG(P:K5):Op->Bool
 |.move _|.assign _|.pick ..|.alloc _|.box ..|.build ..|.buildSlice ..|.load ..|.store ..|.nilCheck _|.binOp ..|.unOp ..=>true
 |.convert a b _=>YV P (P.underlying a) (P.underlying b)
 |.makeInterface ..|.makeFunc ..|.makeMap ..|.makeSlice ..|.slice ..|.fieldAddr ..|.field ..|.indexAddr ..|.index ..|.lookup ..=>true
 |.panic _|.sliceToArrayPointer ..=>true
 |.mapUpdate ..|.insert ..|.range ..|.next ..|.entry ..|.typeAssert ..|.extract ..=>true
 |.call c=>match c.callee with
  |.builtin b=>jM c.args.size b
  |_=>true
 |_=>false
def jS(P:K5)(a:DQ):Bool:=a.all fun o=>NG P o.op
def bQ(P:K5):Code->Bool
 |.region _ c _=>jS P c
 |.seq a b=>bQ P a && bQ P b
 |.cond _ a b=>bQ P a && bQ P b
 |.block _ b=>bQ P b
 |.loop b=>bQ P b
 |.scope b=>bQ P b
 |.rangeFunc _ _ a b=>bQ P a && bQ P b
 |_=>true
def fZ(P:K5)(F:yg)(Z:dX):Next->Prop
 |.value _=>True
 |.skip=>True
 |.enter f _=>P.funcs[f]?=F[f]?/\∀fn b,F[f]?=some fn->fn.body=some b->bQ P b=true
 |.round _ _ _ a b=>Z.ok a/\Z.ok b
 |_=>False
def kM(Q:K5)(s:Sem α)(C:α->Prop):Prop:=∀v a b,s.run Q v=.ok a b->C a
theorem fK{Q:K5}{C:α->Prop}{a:α}(h:C a):kM Q (pure a:Sem α) C:=by intro v b c e;cases e;exact h
theorem eN{Q:K5}{x:Sem α}{f:α->Sem β}{C:β->Prop}(h:∀a,kM Q (f a) C):kM Q (x>>=f) C:=by
 intro v b d e;rw[Sem.run_bind] at e;cases c:x.run Q v with
 |ok a w=>rw[c] at e;exact h a w b d e
 |halt k w=>rw[c] at e;cases e
theorem gJ{Q:K5}{C:α->Prop}(h:Halt):kM Q (.halt h:Sem α) C:=by intro v b a e;cases e
theorem gL{Q:K5}{x:Sem α}{C:α->Prop}(h:∀w,∃k a,x.run Q w=.halt k a):kM Q x C:=by intro v b c e;have⟨k,a,h⟩:=h v;rw[h] at e;cases e
structure Fair (P:Program) (F:Array Func) (Z:dX):Prop where
 call:∀f args,Lk P F Z (callFunc f args)
 YW:∀f args,kM (strip P F) (callFunc f args) (fZ P F Z)
 ok:∀c,Z.ok c ↔ bQ P c=true
 res:∀f:Nat,(F[f]?).map (·.results)=(P.funcs[f]?).map (·.results)
def EZ(Q:K5)(Z:dX)(s:Sem α)(C:α->Prop):Prop:=∀v a c,(∀(b:Nat) (o:Obj),v.heap[b]?=some o->kF Z o)->s.run Q v=.ok a c->C a
theorem kM.t{Q:K5}{s:Sem α}{C:α->Prop}(h:kM Q s C):EZ Q Z s C:=fun v a b _ e=>h v a b e
def IJ:Target->Prop
 |.fn _ _=>True
 |.nil=>True
 |_=>False
section
variable (H:Fair P F Z)
theorem pW(H:Fair P F Z)(x:vZ)(s:String)(y:Ff):Lk P F Z (callMethod x s y):=by
 unfold callMethod;split
 .refine cQ rfl ?_;exact aX (CJ _ _ _ _) fun _=>H.call _ _
 .exact bS _
 .exact aW _
theorem lN(H:Fair P F Z)(x:vZ)(s:String)(y:Ff):kM (strip P F) (callMethod x s y) (fZ P F Z):=by
 unfold callMethod;split
 .exact eN fun _=>eN fun _=>H.YW _ _
 .exact gL (panics _ _)
 .exact gJ _
theorem lO(H:Fair P F Z){t:Target}(a:IJ t)(y:Ff):Lk P F Z (invoke t y):=by
 unfold invoke;cases t with
 |nil=>exact bS _
 |fn f c=>
  cases f with
  |func f=>exact H.call _ _
  |method s=>
   dsimp only;split
   .exact pW H _ _ _
   .exact aW _
  |methodOf t s=>
   dsimp only;split
   .exact aX (dG _) fun d=>pW H _ _ _
   .exact aW _
  |via t p f b=>
   dsimp only;split
   .exact aX (xZ _ _ _ _) fun _=>H.call _ _
   .exact aW _
  |yield l=>exact YS _ _
 |_=>exact a.elim
theorem gS(H:Fair P F Z){t:Target}(i:IJ t)(y:Ff):EZ (strip P F) Z (invoke t y) (fZ P F Z):=by
  unfold invoke;cases t with
  |nil=>exact(gL (panics _ _)).t
  |fn f c=>
    cases f with
    |func f=>exact(H.YW _ _).t
    |method s=>
      dsimp only;split
      · exact(lN H _ _ _).t
      · exact(gJ _).t
    |methodOf t s=>
      dsimp only;split
      · exact(eN (fun d=>lN H _ _ _)).t
      · exact(gJ _).t
    |via t p f b=>
      dsimp only;split
      · exact(eN fun _=>H.YW _ _).t
      · exact(gJ _).t
    |yield l=>
      dsimp only;intro v a k j e;unfold Instr.yield Instr.getLoop at e;rw[bind_assoc] at e;cases g:v.heap[l]? with
      |none=>simp[Go.getObj,bind,Sem.bind,Sem.run,g] at e
      |some o=>
        have h:=j l o g;cases o<;>first
          | (simp[Go.getObj,bind,Sem.bind,Sem.run,g,stuck] at e;done)
          | (rename_i r
             simp only[Go.getObj,bind,Sem.bind,Sem.run,g,pure] at e;split at e
             · cases e
             · cases e
               exact⟨h.1,h.2.1⟩)
  |_=>exact i.elim
end
theorem dH{s:Sem vZ}(h:Lk P F Z s):Lk P F Z (do pure (Next.value (<-s))):=aX h (fun _=>aY _)
theorem FA{s:Sem Unit}(h:Lk P F Z s):Lk P F Z (do s;pure Next.skip):=aX h (fun _=>aY _)
theorem TV{t:Fh}{d:TypeDesc}(h:P.underlying t=some d)(w:WR):(underlying t).run (strip P F) w=.ok d w:=by show(match P.underlying t with|some d=>pure d|none=>stuck "no such type" :Sem TypeDesc).run (strip P F) w=_;rw[h];rfl
theorem rQ{t:Fh}{d:TypeDesc}{f:TypeDesc->Sem α}(h:P.underlying t=some d)(a:Lk P F Z (f d)):Lk P F Z (underlying t>>=f):=
 TM (Q:=fun x=>x=d) (dG t) (fun w x c e=>by rw[TV h] at e;cases e;rfl) (fun x b=>by subst b;exact a)
theorem wu{o:Option TypeDesc}(h:zg o=true):o=some (.int .u8):=by
 cases o with
 |none=>cases h
 |some d=>
  cases d with
  |int k=>cases k<;>first|rfl|cases h
  |_=>cases h
theorem NH{a b:Fh}(x:vZ)(h:YV P (P.underlying a) (P.underlying b)=true):Lk P F Z (convert a b x):=by
 unfold convert;cases c:P.underlying a with
 |none=>rw[c] at h;cases h
 |some d=>
 cases e:P.underlying b with
 |none=>rw[c,e] at h;cases d<;>cases h
 |some f=>
 rw[c,e] at h;refine rQ c (rQ e ?_);cases d<;>cases f<;>first| (cases h;done)|skip
 .cases x with
  |pointer q=>cases q<;>exact bO _
  |float q n=>exact BA _ _ _
  |int q n=>exact aY _
  |_=>exact bO _
 .cases x with
  |int q n=>exact aY _
  |string q=>exact aY _
  |_=>exact iS _
 .cases x with
  |string q=>exact rQ (wu h) (tU _ _)
  |_=>first|exact iS _| (rename_i q _ _;cases q<;>exact iS _)
 .cases x with
  |int q n=>exact aY _
  |string q=>exact aY _
  |_=>exact rQ (wu h) (tS _)
theorem NI{b:Builtin}{n:Nat}(a:jM n b=true)(t:Array Fh)(u:Fh)(c:Array Bool)(x:Ff)(d:x.size=n):Lk P F Z (builtin b t u c x):=by
  cases b<;>first
    | (simp[jM] at a;done)
    |exact dH (zd _ _ _)
    |exact dH (TS _ _ _)
    |exact dH (ns _ _ _)
    |exact dH (TU _ _ _)
    |exact dH (YT _ _ _)
    |exact dH (ze _ _ _)
    |exact dH (zf _ _ _)
    | (refine dH ?_
       simp only[jM,beq_iff_eq] at a;have⟨l⟩:=x;match l,d with
       | [p,y],_=>cases p<;>first|exact wJ _ _ _ _|exact aW "unsafe.String: a pointer and an integer expected"
       | [],h=>simp at h;omega
       | [_],h=>simp at h;omega
       |_::_::_::_,h=>simp at h;omega)
theorem BB{b:Builtin}{n:Nat}(a:jM n b=true)(t:Array Fh)(u:Fh)(c:Array Bool)(x:Ff):kM (strip P F) (builtin b t u c x) (fZ P F Z):=by
 cases b<;>first
  | (simp[jM] at a;done)
  |exact eN fun _=>fK trivial
theorem NJ(t:Fh)(x:vZ):Lk P F Z (Instr.arrayAt t x):=by
 unfold Instr.arrayAt;refine aX (dG _) fun d=>?_;split
 .split
  .exact kX (bS _) (aY _)
  .exact aW _
 .exact aW _
theorem nv(H:Fair P F Z)(ρ:Operand->vZ)(o:Oper)(h:NG P o.op=true)(g:∀x,o.op≠.panic x):Lk P F Z (execOp ρ o):=by
 unfold execOp;cases d:o.op with
 |move x=>exact aY _
 |assign x=>exact aY _
 |pick c a b=>exact aX (CE _) (fun _=>aY _)
 |alloc t=>exact dH (YI _ _ _)
 |box t x=>exact dH (za _ _)
 |build t x=>exact dH (YJ _ _)
 |buildSlice t n x=>exact dH (AX _ _ _)
 |load t x=>exact dH (TK _ _)
 |store t x y=>exact FA (MU _ _ _)
 |nilCheck x=>
  dsimp only;split
  .exact bS _
  .exact bS _
  .exact bS _
  .split
   .exact bS _
   .refine cQ rfl ?_;refine aX (vH _ _ _ _) fun _=>?_;exact kX (bO _) (aY _)
   .exact aY _
  .exact aY _
 |binOp b t x y u=>exact dH (aX (NA _ _ _ _ _ _) (fun _=>YQ _ _ _ _))
 |unOp b t x=>exact dH (YP _ _)
 |convert a b x=>
  rw[d] at h;simp only[NG] at h;exact dH (NH _ h)
 |makeInterface t x=>exact dH (tP _ _)
 |makeFunc f x y=>exact dH (IE _ _ _)
 |makeMap t x=>exact dH (MY _ _)
 |makeSlice t x y=>exact dH (EU _ _ _)
 |slice t x a b c=>exact dH (MX _ _ _ _ _)
 |fieldAddr t x n=>exact dH (MV _ _ _)
 |field t x n=>exact dH (YK _ _ _)
 |indexAddr t x y=>exact dH (MW _ _ _)
 |index t x y=>exact dH (YL _ _ _)
 |lookup t x y b=>exact dH (TL _ _ _ _)
 |mapUpdate t x y z=>exact FA (rM _ _ _ _)
 |insert t x y z=>exact FA (rM _ _ _ _)
 |range t x=>exact dH (YN _ _)
 |next x b=>exact dH (nq _ _ _)
 |entry x=>exact dH (YO _)
 |typeAssert x t u b=>exact dH (AY _ _ _ _)
 |extract x n=>exact dH (MZ _ _)
 |sliceToArrayPointer t x=>exact dH (NJ _ _)
 |panic x=>exact absurd d (g x)
 |call c=>
  rw[d] at h;simp only[NG] at h;dsimp only;unfold resolve;dsimp only;cases e:c.callee with
  |builtin b=>
   rw[e] at h;simp only[pure_bind,invoke];exact NI h _ _ _ _ sI
  |invoke r s=>
   simp only[pure_bind];exact lO H (t:=_) (by exact True.intro) _
  |value f=>
   dsimp only;unfold Deferred.ofValue;split
   .simp only[pure_bind];exact lO H (t:=_) (by exact True.intro) _
   .simp only[pure_bind];exact lO H (t:=_) (by exact True.intro) _
   .exact aW _
 |_=>rw[d] at h;cases h
theorem TW{s:Sem vZ}:kM (strip P F) (do pure (Next.value (<-s))) (fZ P F Z):=eN fun x=>fK (C:=fZ P F Z) (a:=Next.value x) trivial
theorem NK{s:Sem Unit}:kM (strip P F) (do s;pure Next.skip) (fZ P F Z):=eN fun _=>fK (C:=fZ P F Z) (a:=Next.skip) trivial
theorem NL(H:Fair P F Z)(ρ:Operand->vZ)(o:Oper)(h:NG P o.op=true)(d:∀x,o.op≠.panic x):EZ (strip P F) Z (execOp ρ o) (fZ P F Z):=by
 unfold execOp;cases a:o.op with
 |panic x=>exact absurd a (d x)
 |nilCheck x=>
  dsimp only;split
  .exact(gL (panics _ _)).t
  .exact(gL (panics _ _)).t
  .exact(gL (panics _ _)).t
  .split
   .exact(gL (panics _ _)).t
   .refine(eN fun _=>eN fun _=>?_:kM _ _ _).t;split
    .exact gJ _
    .exact fK (C:=fZ P F Z) (a:=Next.value _) trivial
   .exact(fK (C:=fZ P F Z) (a:=Next.value _) trivial).t
  .exact(fK (C:=fZ P F Z) (a:=Next.value _) trivial).t
 |call c=>
  rw[a] at h;simp only[NG] at h;dsimp only;unfold resolve;dsimp only;cases e:c.callee with
  |builtin b=>
   rw[e] at h;simp only[pure_bind,invoke];exact(BB h _ _ _ _).t
  |invoke r s=>
   simp only[pure_bind];exact gS H (t:=_) (by exact True.intro) _
  |value f=>
   dsimp only;unfold Deferred.ofValue;split
   .simp only[pure_bind];exact gS H (t:=_) (by exact True.intro) _
   .simp only[pure_bind];exact gS H (t:=_) (by exact True.intro) _
   .exact(gJ _).t
 |_=>first
  | (rw[a] at h;cases h;done)
  |exact TW.t
  |exact NK.t
  |exact(fK (C:=fZ P F Z) (a:=Next.value _) trivial).t
  |exact(eN fun _=>fK trivial:kM _ _ _).t
end
def dY(P:K5):Item->Bool
 |.code c=>bQ P c
 |.inLoop c=>bQ P c
 |.inScope c=>bQ P c
 |.inRegion a _=>jS P a
 |.call ..=>false
 |.extern ..=>false
 |_=>true
structure dK (P:K5) (fr:Frame):Prop where
 todo:∀x∈fr.todo,dY P x=true
 defers:∀d∈fr.defers,∃r,d={target:=.collected r,args:=#[]}
 mode:fr.mode=.run\/fr.mode=.returning
 kind:fr.kind=.normal
def TX{a:DQ}(h:jS P a=true){i:Nat}{o:Oper}(b:a[i]?=some o):NG P o.op=true:=by unfold jS at h;rw[Array.all_eq_true] at h;obtain⟨c,rfl⟩:=aAu.1 b;exact h i c
section
variable{P:K5}
theorem mN:∀{c:Code} {l:Nat} {d:Code},bQ P c=true->findLabel c l=some d->bQ P d=true
 |.seq a b,l,d,h,e=>by
  simp only[bQ,aBT] at h;simp only[findLabel] at e;cases f:findLabel a l with
  |some r=>
   rw[f] at e;cases e;simp only[bQ,aBT];exact⟨mN h.1 f,h.2⟩
  |none=>rw[f] at e;exact mN h.2 e
 |.label m,l,d,_,e=>by
  simp only[findLabel] at e;split at e
  .cases e;rfl
  .cases e
 |.skip,_,_,_,e|.region ..,_,_,_,e|.cond ..,_,_,_,e|.block ..,_,_,_,e|.loop ..,_,_,_,e|.rangeFunc ..,_,_,_,e|.exit ..,_,_,_,e|.scope ..,_,_,_,e|.goto ..,_,_,_,e|.ret,_,_,_,e|.refuse ..,_,_,_,e=>by simp[findLabel] at e
end
section
variable{P:K5}
theorem tW{id:Nat}:∀{k b:List Item},(∀x∈k,dY P x=true)->exitTo id k=some b->∀x∈b,dY P x=true
  | [],_,_,e=>by simp[exitTo] at e
  |x::k,b,h,e=>by
    have a:∀y∈k,dY P y=true:=fun y c=>h y (by simp[c]);cases x<;>first
      |exact tW a (by simpa[exitTo] using e)
      | (simp only[exitTo] at e
         split at e
         · cases e;exact a
         · exact tW a e)
end
section
variable{P:K5}
theorem tX{l:Nat}:∀{k c:List Item},(∀x∈k,dY P x=true)->gotoIn l k=some c->∀x∈c,dY P x=true
  | [],_,_,e=>by simp[gotoIn] at e
  |x::k,c,h,e=>by
    have b:∀y∈k,dY P y=true:=fun y a=>h y (by simp[a]);have f:=h x sI;cases x<;>first
      |exact tX b (by simpa[gotoIn] using e)
      | (simp only[gotoIn] at e
         split at e
         · rename_i d g
           cases e;intro y a;simp only[aAx] at a;rcases a with rfl|rfl|a
           · exact mN (P:=P) f g
           · exact f
           · exact b y a
         · exact tX b e)
end
def dK.finish(h:dK P fr)(x:vZ):dK P (fr.finish x):=by
 have e:=h.todo;unfold Frame.finish;split
 .rename_i g i f k c;refine⟨fun y a=>?_,h.defers,h.mode,h.kind⟩;simp only[aAx] at a;rcases a with rfl|a
  .exact e (.inRegion g (i::f)) (by rw[c];simp)
  .exact e y (by rw[c];simp[a])
 .rename_i l k c;refine⟨fun y a=>?_,h.defers,h.mode,h.kind⟩;simp only[aAx] at a;rcases a with rfl|a
  .rfl
  .exact e y (by rw[c];simp[a])
 .rename_i k c;exact⟨fun y a=>e y (by rw[c];simp[a]),h.defers,h.mode,h.kind⟩
 .rename_i d b r s k c;have:=e (.call d b r s) (by rw[c];simp);cases this
 .rename_i r s k c;have:=e (.extern r s) (by rw[c];simp);cases this
 .exact h
def NM{Z:dX}{l:Loop}(h:kF Z (.loop l)):Lk P F Z (newObj (.loop l)):=⟨jR ⟨id,h⟩ (fun r=>cW r)⟩
def qJ{Z:dX}{l:Loop}(h:kF Z (.loop l)):Lk P F Z (setObj r (.loop l)):=⟨iR ⟨id,h⟩ id (fun e=>by cases e) (cW ())⟩
def TY{Z:dX}:Lk P F Z (newObj (.deferred (some []))):=⟨jR ⟨id,.inl rfl⟩ (fun r=>cW r)⟩
def TZ{Z:dX}(r:Nat):Lk P F Z (setObj r (.deferred none)):=⟨iR ⟨id,.inr rfl⟩ id (fun e=>by cases e) (cW ())⟩
def kN{b:Type}{Z:dX}{f:Loop->Sem b}(h:∀r,kF Z (.loop r)->Lk P F Z (f r)):Lk P F Z (Instr.getLoop l>>=f):=by
 unfold Instr.getLoop;rw[bind_assoc];refine xR (fun o _ a=>?_) (mM (fun _ _=>?_) ?_)
 .cases o<;>first|exact aW "range over a function: no such loop" | (simp only[pure_bind];exact h _ a)
 .exact fun _=>trivial
 .exact fun _=>trivial
def BC{Z:dX}(l:Nat):Lk P F Z (Instr.beginRound l):=by
 unfold Instr.beginRound;refine kN fun r a=>aX (qJ ⟨a.1,a.2.1,a.2.2⟩) (fun _=>?_);split
 .exact aY _
 .exact bS _
 .exact bS _
 .exact bS _
def IK{Z:dX}(l:Nat)(j:Option Code)(b:∀c,j=some c->Z.ok c):Lk P F Z (Instr.endRound l j):=by unfold Instr.endRound;exact kN fun r a=>aX (qJ ⟨a.1,a.2.1,b⟩) (fun _=>aY _)
def NN{Z:dX}(l:Nat):Lk P F Z (Instr.endLoop l):=by unfold Instr.endLoop;refine kN fun r a=>?_;dsimp only;refine kX (mL _ _) (aX (qJ ⟨a.1,a.2.1,a.2.2⟩) (fun _=>aY _))
def wK{Z:dX}(b:Nat):Lk P F Z (Instr.takeDeferred b):=by
 unfold Instr.takeDeferred;refine xR (fun o _ a=>?_) (mM (fun _ _=>?_) ?_)
 .cases o with
  |deferred c=>
   cases c with
   |none=>exact aW "range over a function: the deferred calls have been taken"
   |some d=>exact aX (TZ _) (fun _=>aY _)
  |_=>exact aW "range over a function: the deferred calls have been taken"
 .exact fun _=>trivial
 .exact fun _=>trivial
def FB{Z:dX}(f:FuncId)(t:Ff)(p:Array Tmp)(a b:Code)(o:Option Nat)(e:Z.ok a)(g:Z.ok b):Lk P F Z (Instr.enterLoop f t p a b o):=by
 have fin:∀(d:Nat) (m:List Deferred),Lk P F Z (do pure (<-newObj (.loop {state:=.ready,pending:=none,fn:=f,tmps:=t,params:=p,assign:=a,body:=b,defers:=d}),m)):=
  fun d m=>aX (NM ⟨e,g,fun c h=>by cases h⟩) (fun _=>aY _)
 unfold Instr.enterLoop;dsimp only;split
 .exact kN fun r _=>aX (aY _) (fun _=>fin _ _)
 .exact aX TY fun _=>aX (aY _) (fun _=>fin _ _)
def NO{Z:dX}(fn:Func)(t:Ff):Lk P F Z (results fn t):=by
 unfold results;refine aX (IA fun x=>?_) fun _=>aY _;cases x with
 |tmp t=>exact aY _
 |cell a t=>exact aX (tJ _) (fun _=>qH _ _)
section
open Go.Conc (G mem_seen)
def gw:GStep->WR
 |.go _ w _=>w
 |.comm _ _ _ _ w _=>w
 |.spawn _ _ w _=>w
 |.count _ w _=>w
 |.timer _ _ w _=>w
 |.alone _ _ w _=>w
 |.newcoro _ _ _ w _=>w
 |.coroswitch _ _ _ w _=>w
 |.collect _ w _=>w
 |.watch _ w _=>w
 |.ended _ w _=>w
def lP(es:aA)(s:GStep):gw (s.after es)=gw s:=by cases s<;>rfl
def dJ(n:Nat):Frame:={fn:=n,tmps:=#[],todo:=[.call {target:=.nil,args:=#[]} false "fmt's door, shut" #[]],defers:=[],mode:=.run,kind:=.normal}
def lQ(Z:dX)(v:WR):Prop:=∀(b:Nat) (o:Obj),v.heap[b]?=some o->kF Z o
def Marks(fr:Frame):Prop:=∀d∈fr.defers,∃r,d={target:=.collected r,args:=#[]}
inductive pX (F:yg):K2->Prop
 |raised {fr:Frame} {frs:eX} {chain:List PanicEntry}:fr.mode=.panicking chain->Marks fr->(∀f∈frs,Marks f)->pX F (G fr (frs++[dJ F.size]))
 |caught {chain:List PanicEntry}:pX F (G {dJ F.size with mode:=.panicking chain} [])
 |popped {x:vZ}:pX F (G ((dJ F.size).finish x) [])
def kO(F:yg)(Z:dX):GStep->Prop
 |.ended _ _ _=>True
 |.go g v _=>pX F g/\lQ Z v
 |_=>False
def kO.after{Z:dX}{s:GStep}(h:kO F Z s)(es:aA):kO F Z (s.after es):=by cases s<;>first|exact h|exact h.elim
def Live(P:K5)(F:yg)(Z:dX)(cw:eX)(w v:WR)(B:Nat)(y x:GStep):Prop:=
 kO F Z x\/∃fr frs w' a es,y=.go (G fr (frs++cw)) w' es/\x.bare=.go (G fr (frs++[dJ F.size])) a/\dK P fr/\(∀f∈frs,dK P f)/\On Z w v w' a/\cV Z B es
def Live.after{Z:dX}(h:Live P F Z cw w v B y x){b:aA}(c:cV Z B es):Live P F Z cw w v B (y.after es) (x.after b):=by
 rcases h with h| ⟨fr,frs,w',d,e,rfl,j,g,f,h3,h4⟩
 .exact .inl (h.after _)
 .refine .inr ⟨fr,frs,w',d,es++e,rfl,?_,g,f,h3,fun a i=>?_⟩
  .cases x<;>simp_all [GStep.after,GStep.bare]
  .rcases aBC.1 i with h|h
   .exact c a h
   .exact h4 a h
def Live.on{Z:dX}{b a:WR}(o:On Z w v b a)(h:Live P F Z cw b a B y x):Live P F Z cw w v B y x:=by
 rcases h with h| ⟨fr,frs,w',c,e,d,i,g,f,h3,h4⟩
 .exact .inl h
 .exact .inr ⟨fr,frs,w',c,e,d,i,g,f,o.tr h3,h4⟩
def iI{Z:dX}:cV Z B #[]:=fun _ h=>by simp at h
def yA{Z:dX}(h:cV Z B es)(p:K5)(fn:FuncId):cV Z B (seen p fn es):=fun e a=>h e (mem_seen a)
def jF{Z:dX}(o:On Z w v x' y')(b:dK P fr)(a:∀f∈frs,dK P f):
  Live P F Z cw w v B (.go {frame:=fr,callers:=frs++cw,status:=.running,dying:=none} x') (.go {frame:=fr,callers:=frs++[dJ F.size],status:=.running,dying:=none} y'):=
 .inr ⟨fr,frs,x',y',#[],rfl,rfl,b,a,o,iI⟩
def qK{Z:dX}(i:dK P fr)(h:∀f∈frs,dK P f)(g:lQ Z v)(c:List PanicEntry)(es:aA):
  kO F Z (.go {frame:=fr.raise c,callers:=frs++[dJ F.size],status:=.running,dying:=none} v es):=by
 refine⟨?_,g⟩;have:∃b,(fr.raise c).mode=.panicking b:=by unfold Frame.raise;split<;>exact⟨_,rfl⟩
 have⟨b,j⟩:=this;refine .raised (fr:=fr.raise c) j (fun d a=>i.defers d ?_) fun f e=>(h f e).defers;unfold Frame.raise at a;split at a<;>exact a
def nQ{Z:dX}(o:On Z w v x' y')(e:fr.kind=.normal)(b:∀f∈frs,dK P f)(a:vZ):
  Live P F Z cw w v B (doReturn P true fr (frs++cw) none a x') (doReturn (strip P F) true fr (frs++[dJ F.size]) none a y'):=by
 cases frs with
 |nil=>
  refine .inl ?_;simp only[aBW,doReturn,e];exact⟨.popped,o.rel.code⟩
 |cons c d=>
  simp only[aBi,doReturn,e];exact jF o ((b c sI).finish a) (fun f g=>b f (by simp[g]))
def YX{b:Type}{s:Sem b}{a:b}(h:s.run p w=.ok a w'):Up w w':=by have:=fT p s w;rw[h] at this;exact this
def FC{a:Type}{s:Sem a}{k:Halt}(h:s.run p w=.halt k w'):Up w w':=by have:=fT p s w;rw[h] at this;exact this
def IL(p:K5)(fr:Frame)(a:eX)(d:Option Dying)(m:String)(w:WR):Up w (gw (endFatal p fr a d m w)):=by
 unfold endFatal;dsimp only;split
 .rename_i heq;exact YX heq
 .rename_i heq;exact FC heq
 .rename_i heq;exact FC heq
def YY(p:K5)(fr:Frame)(b:eX)(d:Option Dying)(g:Nat)(w:WR):Up w (gw (early p fr b d g w)):=by
 have a:∀w:WR,Up w (gw (match w.heap[g]? with
  |some (.pending c elem)=>.go {frame:=fr,callers:=b,status:=.running,dying:=d} {w with heap:=w.heap.setIfInBounds g (.ce c elem)}
  |_=>.ended (.stuck "early: the variable does not wait" (fr.pos p)) w)):=by
  intro w;split
  .exact⟨aAz _,rfl,by simp[gw]⟩
  .exact .refl _
 unfold early;dsimp only;split
 .exact a w
 .split
  .exact .refl _
  .split
   .exact a w
   .split
    .exact a w
    .split
     .exact .refl _
     .exact .refl _
     .exact .refl _
     .exact a w
     .split
      .exact .refl _
      .split
       .exact a w
       .split
        .rename_i heq;exact(YX heq).tr (a _)
        .rename_i heq;exact YX heq
        .rename_i heq;exact FC heq
def IM(p:K5)(fr:Frame)(b:eX)(s:Sem Next)(w:WR):Up (tC (s.run p w)) (gw (stepG.apply p true fr b none s w)):=by
 unfold stepG.apply;simp only[Sem.runT_eq,if_true,lP];cases s.run p w with
 |ok a w'=>
  cases a<;>dsimp only[tC]<;>(repeat' split)<;>exact .refl _
 |halt h w'=>
  cases h with
  |unsupported u=>cases u<;>first|exact .refl _|exact YY _ _ _ _ _ _
  |fatal m=>exact IL _ _ _ _ _ _
  |_=>exact .refl _
def qL{Z:dX}{s:Sem Next}(U:Lk P F Z s)(j:EZ (strip P F) Z s (fZ P F Z))(H:Fair P F Z)(p:dK P fr)(z:∀f∈frs,dK P f)(J:Rel Z w v)(L:fA w v (gw (stepG.apply P true fr (frs++cw) none s w)).drawn)(M:(gw (stepG.apply P true fr (frs++cw) none s w)).heap.size<=B):
    Live P F Z cw w v B (stepG.apply P true fr (frs++cw) none s w) (stepG.apply (strip P F) true fr (frs++[dJ F.size]) none s v):=by
  have G:=IM P fr (frs++cw) s w;have E:=U.ok w v #[] B J iI (L.less G.drawn) (aAw G.size M);clear G L M;have O:fr.kind=.normal:=p.kind;have S:∀d b r k l,fr.todo≠.call d b r k::l:=by intro d b r k l e;have:=p.todo (.call d b r k) (by rw[e];simp);cases this
  have o:=j v;unfold stepG.apply;simp only[Sem.runT_eq,if_true,O];revert E o;generalize s.run P w=r;generalize s.run (strip P F) v=q;intro E o;rcases E with c| ⟨m,I⟩
  · refine .inl (kO.after ?_ _)
    cases q with
    |ok a n=>exact c.elim
    |halt h n=>
      cases h<;>first
        |exact c.elim
        |exact True.intro
        | (rename_i u
           cases u<;>first|exact c.elim|exact True.intro)
  · cases r with
    |ok a w'=>
      cases q with
      |halt h n=>exact m.elim
      |ok b n=>
        obtain⟨rfl,x⟩:=m;have A:=o a n J.code rfl;refine Live.after ?_ (yA ?_ _ _)
        rotate_left
        · split
          · exact iI
          · exact I
        cases a<;>first
          |exact A.elim
          |exact jF x (p.finish _) z
          |skip
        · rename_i f args
          have⟨V,Q⟩:=A;have T:Frame.enter P f args .normal=Frame.enter (strip P F) f args .normal:=by unfold Frame.enter;dsimp only;rw[V]
          have N:dK P (Frame.enter (strip P F) f args .normal):=by
            refine⟨fun i y=>?_,fun d C=>by simp[Frame.enter] at C,.inl rfl,rfl⟩;simp only[Frame.enter,aAB] at y;subst y;simp only[dY];cases R:F[f]? with
            |none=>rfl
            |some fn=>
              cases D:fn.body with
              |none=>simp[D,bQ]
              |some b=>simpa[D] using Q fn b R D
          dsimp only;split
          · rename_i e;exact absurd e (S _ _ _ _ _)
          rw[T];exact .inr ⟨_,fr::frs,w',n,#[],rfl,rfl,N,fun g j=>by
            rcases aAx.1 j with rfl|j
            · exact p
            · exact z g j,x,iI⟩
        · rename_i l f t a b
          refine .inr ⟨Frame.round l f t a b .normal,fr::frs,w',n,#[],rfl,rfl,⟨fun i y=>?_,fun d C=>by simp[Frame.round] at C,.inl rfl,rfl⟩,fun g j=>by
            rcases aAx.1 j with rfl|j
            · exact p
            · exact z g j,x,iI⟩
          simp only[Frame.round,aAx,aAC,or_false] at y;rcases y with rfl|rfl|rfl
          · exact(H.ok a).1 A.1
          · rfl
          · exact(H.ok b).1 A.2
    |halt h w'=>
      cases q with
      |ok b n=>exact m.elim
      |halt k n=>
        obtain⟨rfl,K,x⟩:=m;refine .inl (kO.after ?_ _);cases h<;>first
          |exact K.elim
          |exact qK p z x.rel.code _ _
          | (rename_i u
             cases u<;>first|exact K.elim|exact True.intro)
end
end Go.Lift
