import Derived.Test.YtbephahokhnccaaGreatDoorJ2
set_option linter.all false
namespace Go.Mark
variable{F:yg}{args:Ff}{b:Code}{fn:Func}{f:Nat}{P:K5}{t:Fh}{w:WR}
section
open Go.Lift Go.Proofs Go.Proofs.Tryz
section
def og{Z:dX}{v:WR}(h:Rel Z w v):On Z w v w v:=⟨h,rfl,rfl,aAz _,aAz _,oM,tH.refl w v⟩
def oY(h:P.funcs[f]?=some fn)(g:(fn.name== "runtime.NumGoroutine")=false)(d:fn.body=some b)(w:World):
  (callFunc f args).run P w=.ok (.enter f args) w/\∀a,(callFunc f args).events P w a=a:=by
 have c:¬fn.name= "runtime.NumGoroutine" :=by simpa using g
 have e:∀a,(callFunc f args).runT P w a=(.ok (.enter f args) w,a):=fun a=>by unfold callFunc;simp[Sem.runT_eq,h,c,d]
 constructor
 .unfold callFunc;simp[h,c,d]
 .intro a;rw[Sem.events,e]
def oh{Z:dX}(d:P.funcs[f]?=some fn)(j:(strip P F).funcs[f]?=some fn)(c:(fn.name== "runtime.NumGoroutine")=false)(a:fn.body=some b):Lk P F Z (callFunc f args):=
 ⟨fun w v k B g i _ _=>by have⟨h,e⟩:=oY (args:=args) d c a w;have⟨h3,_⟩:=oY (args:=args) j c a v;rw[h,h3,e];exact .inr ⟨⟨rfl,og g⟩,i⟩⟩
def IP(n:String){Z:dX}(args:Ff):Lk P F Z (Extern.MathBitsCarry.three n args):=by
 have⟨l⟩:=args;rcases l with _| ⟨x,_| ⟨y,_| ⟨c,_| ⟨d,l⟩⟩⟩⟩
 .exact aW _
 .exact aW _
 .exact aW _
 .refine aX (iT _) fun c=>?_;dsimp only;split
  .exact aX (bO _) fun _=>aX (iT _) fun _=>aX (iT _) fun _=>aY _
  .exact aX (iT _) fun _=>aX (iT _) fun _=>aY _
 .exact aW _
noncomputable def ZN:Ff->Sem vZ:=fun args=>do
 let(x,y,c)<-Extern.MathBitsCarry.three "Add64" args
 pure (Extern.MathBitsCarry.pair ((x+y+c) % Extern.MathBitsCarry.m64) ((x+y+c) / Extern.MathBitsCarry.m64))
noncomputable def ZO:Ff->Sem vZ:=fun args=>do
 let(x,y,b)<-Extern.MathBitsCarry.three "Sub64" args
 pure (Extern.MathBitsCarry.pair ((x+Extern.MathBitsCarry.m64 - y - b) % Extern.MathBitsCarry.m64) (if x<y+b then 1 else 0))
open Go.Extern
def ZP{Z:dX}(args:Ff):Lk P F Z (ZN args):=aX (IP _ _) fun _=>aY _
def ZQ{Z:dX}(args:Ff):Lk P F Z (ZO args):=aX (IP _ _) fun _=>aY _
def iC(fn:Func):Prop:=∃e:Array Value->Sem Value,Extern.findNext fn=none/\Extern.find fn=some e/\(fn.name== "runtime.NumGoroutine")=false/\fn.body=none/\∀(P:Program) (F:Array Func) (Z:dX) args,Lk P F Z (e args)
def zi:iC Tryz.f132:=⟨ZO,kR,kR,kR,kR,fun _ _ _ _=>ZQ _⟩
def zj:iC Tryz.f142:=⟨ZN,kR,kR,kR,kR,fun _ _ _ _=>ZP _⟩
def zk:iC Tryz.f257:=⟨(fun args=>ReflectliteValue.unpack (args.getD 0 (.tuple #[]))),kR,kR,kR,kR,fun _ _ _ _=>xQ _⟩
def zl:iC Tryz.f258:=⟨(ReflectliteValue.methodAny (ReflectliteValue.valueError "reflectlite.Value.Type" 0) fun t _ _ _=>ReflectliteType.toType t),kR,kR,kR,kR,fun _ _ _ _=>BH (iM _ _) (fun _ _ _ _=>tN _) _⟩
def zm:iC Tryz.f259:=⟨(ReflectliteValue.method (ReflectliteValue.valueError "reflectlite.Value.IsNil" 0) ReflectliteValue.isNil),kR,kR,kR,kR,fun _ _ _ _=>yG (iM _ _) UG _⟩
def zn:iC Tryz.f287:=⟨ReflectliteType.typeOf,kR,kR,kR,kR,fun _ _ _ _=>NU _⟩
def zo:iC Tryz.f288:=⟨(ReflectliteValue.method (ReflectliteValue.valueError "reflectlite.Value.Elem" 0) ReflectliteValue.elem),kR,kR,kR,kR,fun _ _ _ _=>yG (iM _ _) ZL _⟩
def zp:iC Tryz.f289:=⟨ReflectliteValue.set,kR,kR,kR,kR,fun _ _ _ _=>oc _⟩
def zr:iC Tryz.f362:=⟨(ReflectliteType.abiMethod fun t=>do pure (vB (<-Rtype.kind t))),kR,kR,kR,kR,fun _ _ _ _=>oe ZM _⟩
def zt:iC Tryz.f381:=⟨(ReflectliteType.relation "AssignableTo" ReflectliteType.assignableTo),kR,kR,kR,kR,fun _ _ _ _=>rT NV _⟩
def zu:iC Tryz.f382:=⟨(ReflectliteType.method fun t=>do Rtype.noPackHeld "Comparable" t;pure (.bool (<-typeInfo t).comparable)),kR,kR,kR,kR,fun _ _ _ _=>yF yH _⟩
def zv:iC Tryz.f383:=⟨(ReflectliteType.method ReflectliteType.elem),kR,kR,kR,kR,fun _ _ _ _=>yF ZJ _⟩
def zw:iC Tryz.f384:=⟨(ReflectliteType.relation "Implements" ReflectliteType.implements_),kR,kR,kR,kR,fun _ _ _ _=>rT ZK _⟩
def oo{n:Nat}(b:wM.contains n=true)(h:Tryz.prog.funcs[n]?=some fn):iC fn:=by
 have a:n∈wM:=by simpa using b
 simp only[wM,aAx,aAC,or_false] at a;rcases a with rfl|rfl|rfl|rfl|rfl|rfl|rfl|rfl|rfl|rfl|rfl|rfl|rfl
 .rw[func132] at h;cases h;exact zi
 .rw[func142] at h;cases h;exact zj
 .rw[func257] at h;cases h;exact zk
 .rw[func258] at h;cases h;exact zl
 .rw[func259] at h;cases h;exact zm
 .rw[func287] at h;cases h;exact zn
 .rw[func288] at h;cases h;exact zo
 .rw[func289] at h;cases h;exact zp
 .rw[func362] at h;cases h;exact zr
 .rw[func381] at h;cases h;exact zt
 .rw[func382] at h;cases h;exact zu
 .rw[func383] at h;cases h;exact zv
 .rw[func384] at h;cases h;exact zw
def UI{Z:dX}(b:P.funcs[f]?=some fn)(a:(strip P F).funcs[f]?=some fn)(h:iC fn):Lk P F Z (callFunc f args):=by
 have⟨e,d,c,h3,h4,g⟩:=h;unfold callFunc;refine cQ ?_ ?_
 .simp only[b,a]
 .simp only[a,h3,h4,d,c];simp only[Option.isNone_none,if_true,aBU,if_false];exact aX ⟨BY (.inl ⟨f,rfl⟩) (cW ())⟩ fun _=>aX (g _ _ _ _) fun _=>aY _
def O8(h:pZ fn=true):(fn.name== "runtime.NumGoroutine")=false/\∃b,fn.body=some b/\bQ Tryz.prog b=true:=by
 unfold pZ at h;rw[aBT] at h;refine⟨by simpa using h.1,?_⟩;cases a:fn.body with
 |none=>rw[a] at h;exact absurd h.2 sI
 |some b=>rw[a] at h;exact⟨b,rfl,h.2⟩
def FE(f:Nat)(c:∀(n:Nat) (fn:Func),P.funcs[n]?=some fn->F[n]?=some (if wM.contains n||pZ fn then fn else shut fn.results))(d:P.funcs.size=F.size)(a:∀(n:Nat) (fn:Func),wM.contains n=true->P.funcs[n]?=some fn->iC fn):
   (P.funcs[f]?=none/\F[f]?=none)\/(∃fn,P.funcs[f]?=some fn/\F[f]?=some (shut fn.results))\/(∃fn,iC fn/\P.funcs[f]?=some fn/\F[f]?=some fn)\/∃fn,pZ fn=true/\P.funcs[f]?=some fn/\F[f]?=some fn:=by
 cases h:P.funcs[f]? with
 |none=>
  left;rw[aCc] at h;exact⟨rfl,aBh oM⟩
 |some fn=>
  right;have:=c f fn h;by_cases e:wM.contains f=true
  .rw[e] at this;exact .inr (.inl ⟨fn,a f fn e h,rfl,by simpa using this⟩)
  .by_cases k:pZ fn=true
   .exact .inr (.inr ⟨fn,k,rfl,by simpa[k] using this⟩)
   .have b:wM.contains f=false:=by simpa using e
    rw[b] at this;exact .inl ⟨fn,rfl,by simpa[k] using this⟩
def oq{Z:dX}(q:∀b,bQ Tryz.prog b=bQ P b)(t:∀c,Z.ok c ↔ bQ P c=true)(l:∀(n:Nat) (fn:Func),P.funcs[n]?=some fn->F[n]?=some (if wM.contains n||pZ fn then fn else shut fn.results))(p:P.funcs.size=F.size)(o:∀(n:Nat) (fn:Func),wM.contains n=true->P.funcs[n]?=some fn->iC fn):Go.Lift.Fair P F Z:=by
 refine⟨fun f args=>?_,fun f args=>?_,t,fun f=>?_⟩
 .rcases FE f l p o with⟨_,d⟩| ⟨fn,_,d⟩| ⟨fn,x,g,d⟩| ⟨fn,k,g,d⟩
  .refine CK fun v=>?_;have e:(callFunc f args).run (strip P F) v=.halt (.stuck "call: no such function") v:=by unfold callFunc;have h:(strip P F).funcs[f]?=none:=d;simp[h]
   rw[e];exact trivial
  .exact CK (vM d)
  .exact UI g d x
  .have⟨k1,b,i,_⟩:=O8 k;exact oh g d k1 i
 .intro v a z e;rcases FE f l p o with⟨_,d⟩| ⟨fn,_,d⟩| ⟨fn,x,g,d⟩| ⟨fn,k,g,d⟩
  .have s:(callFunc f args).run (strip P F) v=.halt (.stuck "call: no such function") v:=by unfold callFunc;have h:(strip P F).funcs[f]?=none:=d;simp[h]
   rw[s] at e;cases e
  .have:=vM (args:=args) (Q:=strip P F) d v;rw[e] at this;exact this.elim
  .have⟨x,k1,i,m,w,_⟩:=x;rw[run_callFunc_extern (P:=strip P F) d m (by rw[w];rfl) k1 i] at e;cases r:(x args).run (strip P F) v with
   |ok y j=>rw[r] at e;cases e;exact trivial
   |halt y j=>rw[r] at e;cases e
  .have⟨k1,b,i,m⟩:=O8 k;rw[(oY (P:=strip P F) d k1 i v).1] at e;cases e;refine⟨g.tr d.symm,fun u A h3 h4=>?_⟩;rw[d] at h3;cases h3;rw[i] at h4;cases h4;rw[<-q];exact m
 .rcases FE f l p o with⟨g,d⟩| ⟨fn,g,d⟩| ⟨fn,x,g,d⟩| ⟨fn,k,g,d⟩<;>rw[g,d]<;>rfl
def fair(D:Nat->Prop):Go.Lift.Fair Tryz.prog FQ (cM D):=
 oq (fun _=>rfl) (fun _=>Iff.rfl) (fun _ _ h=>NW h) (by unfold FQ;rw[Array.size_mapIdx]) (fun _ _=>oo)
end
def rV:(strip P F).underlying t=P.underlying t:=rfl
def lS:(underlying t).run (strip P F) w=(underlying t).run P w:=by
 have e:(strip P F).underlying t=P.underlying t:=rfl;unfold underlying;cases h:P.underlying t with
 |none=>rw[h] at e;simp[h,e]
 |some d=>rw[h] at e;simp[h,e]
def jV:(typeInfo t).run (strip P F) w=(typeInfo t).run P w:=by
 have e:(strip P F).info? t=P.info? t:=rfl;unfold typeInfo;cases h:P.info? t with
 |none=>rw[h] at e;simp[h]
 |some d=>rw[h] at e;simp[h]
def FF:(Go.sizeOf t).run (strip P F) w=(Go.sizeOf t).run P w:=by unfold Go.sizeOf;rw[Sem.run_bind,Sem.run_bind,jV];cases (typeInfo t).run P w<;>rfl
def IQ:(isAgg t).run (strip P F) w=(isAgg t).run P w:=by
 have e:=lS (P:=P) (F:=F) (w:=w) (t:=t);unfold isAgg;simp only[Sem.run_bind];generalize(underlying t).run (strip P F) w=x at e;subst e;cases (underlying t).run P w with
 |ok d v=>simp only[Result.andThen_ok];cases d<;>simp only[Sem.run_pure]
 |halt h v=>simp only[Result.andThen]
def wN:(zeroValue t).run (strip P F) w=(zeroValue t).run P w:=by
 have e:=jV (P:=P) (F:=F) (w:=w) (t:=t);unfold zeroValue;simp only[Sem.run_bind];generalize(typeInfo t).run (strip P F) w=x at e;subst e;cases (typeInfo t).run P w with
 |ok d v=>simp only[Result.andThen_ok];cases d.zero<;>simp[unsupported]
 |halt h v=>simp only[Result.andThen]
section
variable{P:K5}{F:yg}{t:Fh}
theorem kZ:∀(d:Nat) (t:Fh),(strip P F).eqGuardType d t=P.eqGuardType d t
 |0,_=>rfl
 |d+1,t=>by
  unfold Program.eqGuardType;rw[rV];split
  .rfl
  .simp only[kZ d]
  .exact kZ d _
  .rfl
end
def ot:(strip P F).depth=P.depth:=rfl
@[simp,go_sem] theorem aC(t:Fh):zQ.prog.underlying t=Tryz.prog.underlying t:=by rw[Ra];exact rV (P:=prog) (F:=FQ)
@[simp,go_sem] theorem Ln(t:Fh):zQ.prog.info? t=Tryz.prog.info? t:=by rw[Ra]
@[simp,go_sem] theorem K0:zQ.prog.types=Tryz.prog.types:=by rw[Ra]
@[simp,go_sem] theorem UJ(t:Fh)(w:WR):(underlying t).run zQ.prog w=(underlying t).run Tryz.prog w:=by rw[Ra];exact lS (P:=prog) (F:=FQ)
@[simp,go_sem] theorem ZR(t:Fh)(w:WR):(typeInfo t).run zQ.prog w=(typeInfo t).run Tryz.prog w:=by rw[Ra];exact jV (P:=prog) (F:=FQ)
@[simp,go_sem] theorem aN(t:Fh)(w:WR):(Go.sizeOf t).run zQ.prog w=(Go.sizeOf t).run Tryz.prog w:=by rw[Ra];exact FF (P:=prog) (F:=FQ)
@[simp,go_sem] theorem aR(t:Fh)(w:WR):(isAgg t).run zQ.prog w=(isAgg t).run Tryz.prog w:=by rw[Ra];exact IQ (P:=prog) (F:=FQ)
@[simp,go_sem] theorem aK(t:Fh)(w:WR):(zeroValue t).run zQ.prog w=(zeroValue t).run Tryz.prog w:=by rw[Ra];exact wN (P:=prog) (F:=FQ)
@[simp,go_sem] theorem mj(d:Nat)(t:Fh):zQ.prog.eqGuardType d t=Tryz.prog.eqGuardType d t:=kZ (P:=prog) (F:=FQ) d t
@[simp,go_sem] theorem K1:zQ.prog.depth=Tryz.prog.depth:=ot (P:=prog) (F:=FQ)
@[simp,go_sem] theorem P5:zQ.prog.rt=Tryz.prog.rt:=by rw[Ra]
@[simp,go_sem] theorem E5:zQ.prog.globals=Tryz.prog.globals:=by rw[Ra]
end
end Go.Mark
namespace Go.Proofs
variable{n:Nat}
section
open Go.Mark
open Tryz
abbrev FZ(n:Nat)(f:Func):Prop:=zQ.prog.funcs[n]?=some f
abbrev CZ(n:Nat):Prop:=∀(args:Ff) (w:WR),(callFunc n args).run zQ.prog w=.ok (.enter n args) w
def qz{f:Func}(h:Tryz.prog.funcs[n]?=some f)(a:pZ f=true:=by kernel_rfl):FZ n f:=Fe h a
noncomputable def aDt(n:Nat):Bool:=match Tryz.prog.funcs[n]? with
 |some f=>pZ f&&!(f.name== "runtime.NumGoroutine")&&f.body.isSome
 |none=>false
def aDq:Nat:=15130639578761060140156558453544347115628271102286504758282936681646729426042847374388173432178290027375205896880562176
def aDv:(List.range 420).all (fun n=>aDq>>>n%2!=1||aDt n)=true:=by kernel_rfl
@[simp]def aDm(h:15130639578761060140156558453544347115628271102286504758282936681646729426042847374388173432178290027375205896880562176>>>n%2=1):CZ n:=by
 have h:aDq>>>n%2=1:=h
 have l:n<420:=by
  refine Nat.lt_of_not_le fun e=>?_
  obtain⟨k,rfl⟩:=Nat.exists_eq_add_of_le e;rw[Nat.shiftRight_add,show aDq>>>420=0 by kernel_rfl,Nat.zero_shiftRight] at h;cases h
 have d:=List.all_eq_true.1 aDv n (aCF.2 l)
 have a:aDt n=true:=by simp only[h] at d;simpa using d
 unfold aDt at a;cases c:prog.funcs[n]? with
 |none=>rw[c] at a;cases a
 |some f=>
  rw[c] at a;simp only[aBT,Bool.not_eq_true'] at a;have⟨⟨i,g⟩,h3⟩:=a
  have⟨b,j⟩:=Option.isSome_iff_exists.1 h3;exact fun _ w=>(oY (Fe c i) g j w).1
@[simp]def Yq:zQ.prog.funcs[132]?=some Tryz.f132:=uA func132 rfl
@[simp]def Yr:zQ.prog.funcs[142]?=some Tryz.f142:=uA func142 rfl
@[simp]def Yt:zQ.prog.funcs[257]?=some Tryz.f257:=uA func257 rfl
@[simp]def Yu:zQ.prog.funcs[258]?=some Tryz.f258:=uA func258 rfl
@[simp]def Yv:zQ.prog.funcs[259]?=some Tryz.f259:=uA func259 rfl
@[simp]def R2:zQ.prog.funcs[287]?=some Tryz.f287:=uA func287 rfl
@[simp]def Yw:zQ.prog.funcs[288]?=some Tryz.f288:=uA func288 rfl
@[simp]def Yx:zQ.prog.funcs[289]?=some Tryz.f289:=uA func289 rfl
@[simp]def Yy:zQ.prog.funcs[362]?=some Tryz.f362:=uA func362 rfl
@[simp]def Yz:zQ.prog.funcs[381]?=some Tryz.f381:=uA func381 rfl
@[simp]def Sm:zQ.prog.funcs[382]?=some Tryz.f382:=uA func382 rfl
@[simp]def Y0:zQ.prog.funcs[383]?=some Tryz.f383:=uA func383 rfl
@[simp]def Y1:zQ.prog.funcs[384]?=some Tryz.f384:=uA func384 rfl
@[simp]def zQ.func141:FZ 141 Tryz.f141:=qz Tryz.func141
@[simp]def zQ.func236:FZ 236 Tryz.f236:=qz Tryz.func236
@[simp]def zQ.func260:FZ 260 Tryz.f260:=qz Tryz.func260
@[simp]def zQ.func316:FZ 316 Tryz.f316:=qz Tryz.func316
@[simp]def zQ.func317:FZ 317 Tryz.f317:=qz Tryz.func317
@[simp]def zQ.func372:FZ 372 Tryz.f372:=qz Tryz.func372
@[simp]def zQ.func375:FZ 375 Tryz.f375:=qz Tryz.func375
def Yj:CZ 366:=aDm (by rfl)
def Zz:CZ 367:=aDm (by rfl)
def Z0:CZ 368:=aDm (by rfl)
def Z1:CZ 369:=aDm (by rfl)
def Yk:CZ 370:=aDm (by rfl)
def Z2:CZ 373:=aDm (by rfl)
def Z3:CZ 376:=aDm (by rfl)
def Z4:CZ 391:=aDm (by rfl)
def Z5:CZ 392:=aDm (by rfl)
def zQ.ntmps141:type_of% Tryz.ntmps141:=Tryz.ntmps141
def zQ.ntmps236:type_of% Tryz.ntmps236:=Tryz.ntmps236
def zQ.ntmps260:type_of% Tryz.ntmps260:=Tryz.ntmps260
def zQ.ntmps316:type_of% Tryz.ntmps316:=Tryz.ntmps316
def zQ.ntmps317:type_of% Tryz.ntmps317:=Tryz.ntmps317
def zQ.ntmps372:type_of% Tryz.ntmps372:=Tryz.ntmps372
def zQ.ntmps375:type_of% Tryz.ntmps375:=Tryz.ntmps375
abbrev Cq:=Calls zQ.prog
end
end Go.Proofs
namespace Go.Mark
variable{a:Act}{c:Code}{b:Frame}{fn:Func}{f:FuncId}{cw:eX}{k:List Item}{w:WR}
section
open Go.Conc Go.Lift Go.Proofs Go.Proofs.Tryz
def jJ(g:b.kind=.normal)(f:a.defers=[])(e:∀x∈k,dY Tryz.prog x=true):dK Tryz.prog (b.at a k):=
 ⟨e,fun d c=>by simp[Frame.at,f] at c,.inl rfl,g⟩
def mD{P:K5}{D:WU}{S d:WM}(f:∀a w,S a w->d a w){a:K2}(h:nR P D S a w):nR P D d a w:=by
 induction h with
 |stop h=>exact .stop fun c b=>f _ _ (h c b)
 |step run i g _ e=>exact .step run i g e
def mE{D:Nat->Prop}{Φ:Fi}(r:b.kind=.normal)(B:a.defers=[])(C:bQ Tryz.prog c=true)(s:∀x∈k,dY Tryz.prog x=true)(o:∃v,Rel (cM D) w v)(q:∀v,Rel (cM D) w v->c.wp zQ.prog (fun e d h=>e=.normal/\d.defers=[]/\Φ d h) a v):
  nR Tryz.prog (kY (cM D)) (fun g m=>∃d h,g=G (b.at d k) cw/\Rel (cM D) m h/\pY w m h/\d.defers=[]/\Φ d h) (G (b.at a (.code c::k)) cw) w:=by
 refine mD ?_ (lift (fair D) (cw:=cw) (S:=fun fr j v=>∃d,fr=b.at d k/\j=[]/\d.defers=[]/\Φ d v) (fr:=b.at a (.code c::k)) (frs:=[]) (w:=w)
  (jJ r B (fun x p=>by rcases aAx.1 p with rfl|p;exact C;exact s x p)) (fun f u=>by simp at u) o (fun v A=>?_))
 .rintro g m ⟨fr,j,v,rfl,y,z,d,rfl,rfl,l,i⟩;exact⟨d,v,rfl,y,z,l,i⟩
 .obtain⟨e,d,h,⟨rfl,l,i⟩,n,t⟩:=q v A b k [dJ FQ.size];rw[Ra] at t;exact⟨n,b.at d k,[],h,t,jJ r l s,d,rfl,rfl,l,i⟩
def after(f:Frame)(c:Act)(a:DQ)(d:Nat)(b:K4)(e:List Item)(v:vZ):Frame:=f.at (c.put ((a[d]?).bind (·.dst)) v) (.inRegion a b::e)
def RL(a:Act)(x:Option Tmp)(v:vZ)(h:a.defers=[]):(a.put x v).defers=[]:=by cases x<;>exact h
def vX{Q:K5}{c:Frame}{todo:List Item}{e:eX}{v:WR}{val:vZ}(d:b.fn=f)(j:b.kind=.normal)(h:Q.funcs[f]?=some fn)(g:a.defers=[])(i:(results fn a.tmps).run Q v=.ok val v):
  Steps Q (lone {b.at a todo with mode:=.returning} (c::e) v) (lone (c.finish val) e v):=
 .one (step_leave_returned ⟨rfl,g,j,fn,by show Q.funcs[b.fn]?=_;rw[d];exact h,i⟩)
def DF{D:Nat->Prop}{b₀:Frame}{a₀:Act}{ops0:Array Oper}{i₀:Nat}{rest0:List Nat}{k₀:List Item}{Ψ:Value->World->Prop}(C:b.fn=f)(I:zQ.prog.funcs[f]?=some fn)(M:b.kind=.normal)(R:a.defers=[])(S:bQ Tryz.prog c=true)(t:b₀.kind=.normal)(k:a₀.defers=[])(E:jS Tryz.prog ops0=true)(u:∀x∈k₀,dY Tryz.prog x=true)(J:∃v,Rel (cM D) w v)(L:∀v,Rel (cM D) w v->c.wp zQ.prog (bodyPost zQ.prog fn fun e j=>∃val,e=.returned val/\Ψ val j) a v):
  nR Tryz.prog (kY (cM D)) (fun g F=>∃val j,g=G (after b₀ a₀ ops0 i₀ rest0 k₀ val) cw/\Rel (cM D) F j/\pY w F j/\Ψ val j) (G (b.at a [.code c]) (b₀.at a₀ (.inRegion ops0 (i₀::rest0)::k₀)::cw)) w:=by
 have N:∀p,p.defers=[]->∀l,dK Tryz.prog (b₀.at p (.inRegion ops0 l::k₀)):=fun p H l=>jJ t H (fun x A=>by rcases aAx.1 A with rfl|A;exact E;exact u x A);refine mD ?_ (lift (fair D) (cw:=cw) (S:=fun fr q v=>∃val,fr=after b₀ a₀ ops0 i₀ rest0 k₀ val/\q=[]/\Ψ val v) (fr:=b.at a [.code c]) (frs:=[b₀.at a₀ (.inRegion ops0 (i₀::rest0)::k₀)]) (w:=w)
  (jJ M R (fun x A=>by rw[aAB.1 A];exact S)) (fun f I=>by rw[aAB.1 I];exact N a₀ k _) J (fun v Q=>?_))
 .rintro g F ⟨fr,q,v,rfl,r,K,val,rfl,rfl,d⟩;exact⟨val,v,rfl,r,K,d⟩
 .obtain⟨e,p,j,z,O⟩:=L v Q b [] (b₀.at a₀ (.inRegion ops0 (i₀::rest0)::k₀)::[dJ FQ.size]);have fin:∀val,(b₀.at a₀ (.inRegion ops0 (i₀::rest0)::k₀)).finish val=after b₀ a₀ ops0 i₀ rest0 k₀ val:=fun val=>Frame.finish_at _ _ _ _ _ _ _;have key:∀val,(∃i,Steps zQ.prog (lone (b.at a [.code c]) (b₀.at a₀ (.inRegion ops0 (i₀::rest0)::k₀)::[dJ FQ.size]) v) (lone {b.at p i with mode:=.returning} (b₀.at a₀ (.inRegion ops0 (i₀::rest0)::k₀)::[dJ FQ.size]) j))->p.defers=[]->(results fn p.tmps).run zQ.prog j=.ok val j->Ψ val j->
    ∃n s m B,runN (strip Tryz.prog FQ) n (lone (b.at a [.code c]) ([b₀.at a₀ (.inRegion ops0 (i₀::rest0)::k₀)]++[dJ FQ.size]) v)=.next (lone s (m++[dJ FQ.size]) B)/\dK Tryz.prog s/\∃val,s=after b₀ a₀ ops0 i₀ rest0 k₀ val/\m=[]/\Ψ val B:=by
   rintro val ⟨i,K⟩ y r d;obtain⟨n,P⟩:=K.trans (vX (todo:=i) C M I y r);rw[fin,Ra] at P;exact⟨n,_,[],j,P,N _ (RL _ _ _ k) _,val,rfl,rfl,d⟩
  cases e with
  |normal=>
   obtain⟨y,x,r,val,o,d⟩:=z;cases o;exact key _ ⟨[],O.trans (.one step_end)⟩ y r d
  |ret=>
   obtain⟨y,x,r,val,o,d⟩:=z;cases o;exact key _ O y r d
  |panic T=>obtain⟨_,_,h,_⟩:=z;cases h
  |outgrown=>obtain⟨_,h,_⟩:=z;cases h
  |_=>exact z.elim
end
end Go.Mark
