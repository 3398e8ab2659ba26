import Derived.Test.YtbephahokhnccaaGreatDoorXA17toE1
namespace Go.Mark
open Go.Lift Go.Proofs
section
theorem Ale {Z : Veil} {w v : World} (h : Rel Z w v) : On Z w v w v:=⟨h,rfl,rfl,Nat.le_refl _,Nat.le_refl _,by omega,Offs.refl w v⟩
theorem J5 {P : Program} {f : Nat} {fn : Func} {b : Code} {args : Array Value} (h : P.funcs[f]? = some fn) (hn : (fn.name == "runtime.NumGoroutine") = false) (hb : fn.body = some b) (w : World) :
  (callFunc f args).run P w = .ok (.enter f args) w /\ ∀ es,(callFunc f args).events P w es = es:=by
 have hn' : ¬ fn.name = "runtime.NumGoroutine":=by simpa using hn
 have e : ∀ es,(callFunc f args).runT P w es = (.ok (.enter f args) w,es):=fun es=>by
  unfold callFunc
  simp [Sem.runT_eq,h,hn',hb]
 constructor
 ·unfold callFunc
  simp [h,hn',hb]
 ·intro es
  rw [Sem.events,e]
theorem Alx {P : Program} {F : Array Func} {Z : Veil} {f : Nat} {fn : Func} {b : Code} {args : Array Value} (hP : P.funcs[f]? = some fn) (hF : (strip P F).funcs[f]? = some fn) (hn : (fn.name == "runtime.NumGoroutine") = false) (hb : fn.body = some b) : Lk P F Z (callFunc f args) :=
 ⟨fun w v es B hr hc _ _=>by
  obtain ⟨h1,h2⟩:=J5 (args:=args) hP hn hb w
  obtain ⟨h3,_⟩:=J5 (args:=args) hF hn hb v
  rw [h1,h3,h2]
  exact .inr ⟨⟨rfl,Ale hr⟩,hc⟩⟩
theorem X7 (n : String) {P : Program} {F : Array Func} {Z : Veil} (args : Array Value) : Lk P F Z (Extern.MathBitsCarry.three n args):=by
 obtain ⟨l⟩:=args
 rcases l with _ | ⟨x,_ | ⟨y,_ | ⟨c,_ | ⟨d,l⟩⟩⟩⟩
 ·exact Ap _
 ·exact Ap _
 ·exact Ap _
 ·refine Ao (Fy _) fun c=>?_
  dsimp only
  split
  ·exact Ao (A7 _) fun _=>Ao (Fy _) fun _=>Ao (Fy _) fun _=>Aq _
  ·exact Ao (Fy _) fun _=>Ao (Fy _) fun _=>Aq _
 ·exact Ap _
noncomputable def Ahp : Array Value -> Sem Value:=fun args=>do
  let (x,y,c) <- Extern.MathBitsCarry.three "Add64" args
  pure (Extern.MathBitsCarry.pair ((x + y + c) % Extern.MathBitsCarry.m64) ((x + y + c) / Extern.MathBitsCarry.m64))
noncomputable def Ag8 : Array Value -> Sem Value:=fun args=>do
  let (x,y,b) <- Extern.MathBitsCarry.three "Sub64" args
  pure (Extern.MathBitsCarry.pair ((x + Extern.MathBitsCarry.m64 - y - b) % Extern.MathBitsCarry.m64) (if x < y + b then 1 else 0))
section
open Go.Extern
theorem Ajf {P : Program} {F : Array Func} {Z : Veil} (args : Array Value) : Lk P F Z (Ahp args):=Ao (X7 _ _) fun _=>Aq _
theorem Ais {P : Program} {F : Array Func} {Z : Veil} (args : Array Value) : Lk P F Z (Ag8 args):=Ao (X7 _ _) fun _=>Aq _
def Fh (fn : Func) : Prop:=∃ e : Array Value -> Sem Value,Extern.findNext fn = none /\ Extern.find fn = some e /\ (fn.name == "runtime.NumGoroutine") = false /\ fn.body = none /\ ∀ (P : Program) (F : Array Func) (Z : Veil) args,Lk P F Z (e args)
theorem Apf : Fh Tryz.f132:=⟨Ag8,by kernel_rfl,by kernel_rfl,by kernel_rfl,by kernel_rfl,fun _ _ _ _=>Ais _⟩
theorem Ape : Fh Tryz.f142:=⟨Ahp,by kernel_rfl,by kernel_rfl,by kernel_rfl,by kernel_rfl,fun _ _ _ _=>Ajf _⟩
theorem Apd : Fh Tryz.f257:=⟨(fun args=>ReflectliteValue.unpack (args.getD 0 (.tuple #[]))),by kernel_rfl,by kernel_rfl,by kernel_rfl,by kernel_rfl,fun _ _ _ _=>Qy _⟩
theorem Apc : Fh Tryz.f258:=⟨(ReflectliteValue.methodAny (ReflectliteValue.valueError "reflectlite.Value.Type" 0) fun t _ _ _=>ReflectliteType.toType t),by kernel_rfl,by kernel_rfl,by kernel_rfl,by kernel_rfl,fun _ _ _ _=>Sb (Fw _ _) (fun _ _ _ _=>Ni _) _⟩
theorem Apb : Fh Tryz.f259:=⟨(ReflectliteValue.method (ReflectliteValue.valueError "reflectlite.Value.IsNil" 0) ReflectliteValue.isNil),by kernel_rfl,by kernel_rfl,by kernel_rfl,by kernel_rfl,fun _ _ _ _=>Qx (Fw _ _) Aex _⟩
theorem Apa : Fh Tryz.f287:=⟨ReflectliteType.typeOf,by kernel_rfl,by kernel_rfl,by kernel_rfl,by kernel_rfl,fun _ _ _ _=>Abe _⟩
theorem Ao9 : Fh Tryz.f288:=⟨(ReflectliteValue.method (ReflectliteValue.valueError "reflectlite.Value.Elem" 0) ReflectliteValue.elem),by kernel_rfl,by kernel_rfl,by kernel_rfl,by kernel_rfl,fun _ _ _ _=>Qx (Fw _ _) Aiq _⟩
theorem Ao8 : Fh Tryz.f289:=⟨ReflectliteValue.set,by kernel_rfl,by kernel_rfl,by kernel_rfl,by kernel_rfl,fun _ _ _ _=>Alk _⟩
theorem Ao7 : Fh Tryz.f362:=⟨(ReflectliteType.abiMethod fun t=>do pure (.int .u8 (<- Rtype.kind t))),by kernel_rfl,by kernel_rfl,by kernel_rfl,by kernel_rfl,fun _ _ _ _=>Alm Aiz _⟩
theorem Ao6 : Fh Tryz.f381:=⟨(ReflectliteType.relation "AssignableTo" ReflectliteType.assignableTo),by kernel_rfl,by kernel_rfl,by kernel_rfl,by kernel_rfl,fun _ _ _ _=>L8 Abf _⟩
theorem Ao5 : Fh Tryz.f382:=⟨(ReflectliteType.method fun t=>do Rtype.noPackHeld "Comparable" t; pure (.bool (<- typeInfo t).comparable)),by kernel_rfl,by kernel_rfl,by kernel_rfl,by kernel_rfl,fun _ _ _ _=>Qz Rm _⟩
theorem Ao4 : Fh Tryz.f383:=⟨(ReflectliteType.method ReflectliteType.elem),by kernel_rfl,by kernel_rfl,by kernel_rfl,by kernel_rfl,fun _ _ _ _=>Qz Ai1 _⟩
theorem Ao3 : Fh Tryz.f384:=⟨(ReflectliteType.relation "Implements" ReflectliteType.implements_),by kernel_rfl,by kernel_rfl,by kernel_rfl,by kernel_rfl,fun _ _ _ _=>L8 Ai0 _⟩
end
theorem Amb {n : Nat} {fn : Func} (hn : exts.contains n = true) (h : Tryz.prog.funcs[n]? = some fn) : Fh fn:=by
 have hm : n ∈ exts:=by simpa using hn
 simp only [exts,List.mem_cons,List.not_mem_nil,or_false] at hm
 rcases hm with rfl | rfl | rfl | rfl | rfl | rfl | rfl | rfl | rfl | rfl | rfl | rfl | rfl
 ·rw [Tryz.func132] at h; cases h; exact Apf
 ·rw [Tryz.func142] at h; cases h; exact Ape
 ·rw [Tryz.func257] at h; cases h; exact Apd
 ·rw [Tryz.func258] at h; cases h; exact Apc
 ·rw [Tryz.func259] at h; cases h; exact Apb
 ·rw [Tryz.func287] at h; cases h; exact Apa
 ·rw [Tryz.func288] at h; cases h; exact Ao9
 ·rw [Tryz.func289] at h; cases h; exact Ao8
 ·rw [Tryz.func362] at h; cases h; exact Ao7
 ·rw [Tryz.func381] at h; cases h; exact Ao6
 ·rw [Tryz.func382] at h; cases h; exact Ao5
 ·rw [Tryz.func383] at h; cases h; exact Ao4
 ·rw [Tryz.func384] at h; cases h; exact Ao3
theorem Afh {P : Program} {F : Array Func} {Z : Veil} {f : Nat} {fn : Func} {args : Array Value} (hP : P.funcs[f]? = some fn) (hF : (strip P F).funcs[f]? = some fn) (h : Fh fn) : Lk P F Z (callFunc f args):=by
 obtain ⟨e,h1,h2,h3,h4,h5⟩:=h
 unfold callFunc
 refine Ca ?_ ?_
 ·simp only [hP,hF]
 ·simp only [hF,h3,h4,h1,h2]
  simp only [Option.isNone_none,if_true,Bool.false_eq_true,if_false]
  exact Ao ⟨Ty (.inl ⟨f,rfl⟩) (Ch ())⟩ fun _=>Ao (h5 _ _ _ _) fun _=>Aq _
theorem okF {fn : Func} (h : J6 fn = true) : (fn.name == "runtime.NumGoroutine") = false /\ ∃ b,fn.body = some b /\ Br Tryz.prog b = true:=by
 unfold J6 at h
 rw [Bool.and_eq_true] at h
 refine ⟨by simpa using h.1,?_⟩
 cases hb : fn.body with
 | none=>rw [hb] at h; exact absurd h.2 (by simp)
 | some b=>rw [hb] at h; exact ⟨b,rfl,h.2⟩
theorem Vz {P : Program} {F : Array Func} (f : Nat) (hg : ∀ (n : Nat) (fn : Func),P.funcs[n]? = some fn -> F[n]? = some (if exts.contains n || J6 fn then fn else shut fn.results)) (hs : P.funcs.size = F.size) (hE : ∀ (n : Nat) (fn : Func),exts.contains n = true -> P.funcs[n]? = some fn -> Fh fn) :
   (P.funcs[f]? = none /\ F[f]? = none) \/ (∃ fn,P.funcs[f]? = some fn /\ F[f]? = some (shut fn.results)) \/ (∃ fn,Fh fn /\ P.funcs[f]? = some fn /\ F[f]? = some fn) \/ ∃ fn,J6 fn = true /\ P.funcs[f]? = some fn /\ F[f]? = some fn:=by
 cases h : P.funcs[f]? with
 | none =>
  left
  rw [Array.getElem?_eq_none_iff] at h
  exact ⟨rfl,Array.getElem?_eq_none (by omega)⟩
 | some fn =>
  right
  have:=hg f fn h
  by_cases e : exts.contains f = true
  ·rw [e] at this
   exact .inr (.inl ⟨fn,hE f fn e h,rfl,by simpa using this⟩)
  ·by_cases k : J6 fn = true
   ·exact .inr (.inr ⟨fn,k,rfl,by simpa [k] using this⟩)
   ·have e' : exts.contains f = false:=by simpa using e
    rw [e'] at this
    exact .inl ⟨fn,rfl,by simpa [k] using this⟩
theorem Al9 {P : Program} {F : Array Func} {Z : Veil} (hok : ∀ b,Br Tryz.prog b = Br P b) (hZ : ∀ c,Z.ok c ↔ Br P c = true) (hg : ∀ (n : Nat) (fn : Func),P.funcs[n]? = some fn -> F[n]? = some (if exts.contains n || J6 fn then fn else shut fn.results)) (hs : P.funcs.size = F.size) (hE : ∀ (n : Nat) (fn : Func),exts.contains n = true -> P.funcs[n]? = some fn -> Fh fn) : Go.Lift.Fair P F Z:=by
 refine ⟨fun f args=>?_,fun f args=>?_,hZ,fun f=>?_⟩
 ·rcases Vz f hg hs hE with ⟨_,h2⟩ | ⟨fn,_,h2⟩ | ⟨fn,x,h1,h2⟩ | ⟨fn,k,h1,h2⟩
  ·refine Uu fun v=>?_
   have e : (callFunc f args).run (strip P F) v = .halt (.stuck "call: no such function") v:=by
    unfold callFunc
    have h2' : (strip P F).funcs[f]? = none:=h2
    simp [h2']
   rw [e]
   exact trivial
  ·exact Uu (Oj h2)
  ·exact Afh h1 h2 x
  ·obtain ⟨k1,b,k2,_⟩:=okF k
   exact Alx h1 h2 k1 k2
 ·intro v a v' e
  rcases Vz f hg hs hE with ⟨_,h2⟩ | ⟨fn,_,h2⟩ | ⟨fn,x,h1,h2⟩ | ⟨fn,k,h1,h2⟩
  ·have e' : (callFunc f args).run (strip P F) v = .halt (.stuck "call: no such function") v:=by
    unfold callFunc
    have h2' : (strip P F).funcs[f]? = none:=h2
    simp [h2']
   rw [e'] at e
   cases e
  ·have:=Oj (args:=args) (Q:=strip P F) h2 v
   rw [e] at this
   exact this.elim
  ·obtain ⟨x,k1,k2,k3,k4,_⟩:=x
   rw [run_callFunc_extern (P:=strip P F) h2 k3 (by rw [k4]; rfl) k1 k2] at e
   cases hx : (x args).run (strip P F) v with
   | ok y v₁=>rw [hx] at e; cases e; exact trivial
   | halt y v₁=>rw [hx] at e; cases e
  ·obtain ⟨k1,b,k2,k3⟩:=okF k
   rw [(J5 (P:=strip P F) h2 k1 k2 v).1] at e
   cases e
   refine ⟨h1.trans h2.symm,fun fn' b' h3 h4=>?_⟩
   rw [h2] at h3
   cases h3
   rw [k2] at h4
   cases h4
   rw [<- hok]
   exact k3
 ·rcases Vz f hg hs hE with ⟨h1,h2⟩ | ⟨fn,h1,h2⟩ | ⟨fn,x,h1,h2⟩ | ⟨fn,k,h1,h2⟩ <;> rw [h1,h2] <;> rfl
theorem fair (D : Nat -> Prop) : Go.Lift.Fair Tryz.prog FQ (veil D) :=
 Al9 (fun _=>rfl) (fun _=>Iff.rfl) (fun _ _ h=>Aai h) (by unfold FQ; rw [Array.size_mapIdx]) (fun _ _=>Amb)
end
section
section
variable {P : Program} {F : Array Func} {w : World} {t : TypeId}
theorem Ls : (strip P F).underlying t = P.underlying t:=rfl
theorem Ia : (underlying t).run (strip P F) w = (underlying t).run P w:=by
 have e : (strip P F).underlying t = P.underlying t:=rfl
 unfold underlying
 cases h : P.underlying t with
 | none=>rw [h] at e; simp [h,e]
 | some d=>rw [h] at e; simp [h,e]
theorem Gv : (typeInfo t).run (strip P F) w = (typeInfo t).run P w:=by
 have e : (strip P F).info? t = P.info? t:=rfl
 unfold typeInfo
 cases h : P.info? t with
 | none=>rw [h] at e; simp [h]
 | some d=>rw [h] at e; simp [h]
theorem Wj : (Go.sizeOf t).run (strip P F) w = (Go.sizeOf t).run P w:=by
 unfold Go.sizeOf
 rw [Sem.run_bind,Sem.run_bind,Gv]
 cases (typeInfo t).run P w <;> rfl
theorem Y0 : (isAgg t).run (strip P F) w = (isAgg t).run P w:=by
 have e:=Ia (P:=P) (F:=F) (w:=w) (t:=t)
 unfold isAgg
 simp only [Sem.run_bind]
 generalize (underlying t).run (strip P F) w = x at e
 subst e
 cases (underlying t).run P w with
 | ok d v=>simp only [Result.andThen_ok]; cases d <;> simp only [Sem.run_pure]
 | halt h v=>simp only [Result.andThen]
theorem Pb : (zeroValue t).run (strip P F) w = (zeroValue t).run P w:=by
 have e:=Gv (P:=P) (F:=F) (w:=w) (t:=t)
 unfold zeroValue
 simp only [Sem.run_bind]
 generalize (typeInfo t).run (strip P F) w = x at e
 subst e
 cases (typeInfo t).run P w with
 | ok d v=>simp only [Result.andThen_ok]; cases d.zero <;> simp [unsupported]
 | halt h v=>simp only [Result.andThen]
theorem Hq : ∀ (d : Nat) (t : TypeId),(strip P F).eqGuardType d t = P.eqGuardType d t
 | 0,_=>rfl
 | d + 1,t=>by
  unfold Program.eqGuardType
  rw [Ls]
  split
  ·rfl
  ·simp only [Hq d]
  ·exact Hq d _
  ·rfl
theorem Akw : (strip P F).depth = P.depth:=rfl
end
@[simp,go_sem] theorem Ab (t : TypeId) : TryQ.prog.underlying t = Tryz.prog.underlying t:=by
 rw [TryQ.prog_eq]
 exact Ls (P:=Tryz.prog) (F:=FQ)
@[simp,go_sem] theorem q_info (t : TypeId) : TryQ.prog.info? t = Tryz.prog.info? t:=by
 rw [TryQ.prog_eq]
@[simp,go_sem] theorem Ar8 : TryQ.prog.types = Tryz.prog.types:=by
 rw [TryQ.prog_eq]
@[simp,go_sem] theorem Agm (t : TypeId) (w : World) : (underlying t).run TryQ.prog w = (underlying t).run Tryz.prog w:=by
 rw [TryQ.prog_eq]
 exact Ia (P:=Tryz.prog) (F:=FQ)
@[simp,go_sem] theorem Aj9 (t : TypeId) (w : World) : (typeInfo t).run TryQ.prog w = (typeInfo t).run Tryz.prog w:=by
 rw [TryQ.prog_eq]
 exact Gv (P:=Tryz.prog) (F:=FQ)
@[simp,go_sem] theorem Ag (t : TypeId) (w : World) : (Go.sizeOf t).run TryQ.prog w = (Go.sizeOf t).run Tryz.prog w:=by
 rw [TryQ.prog_eq]
 exact Wj (P:=Tryz.prog) (F:=FQ)
@[simp,go_sem] theorem Ak (t : TypeId) (w : World) : (isAgg t).run TryQ.prog w = (isAgg t).run Tryz.prog w:=by
 rw [TryQ.prog_eq]
 exact Y0 (P:=Tryz.prog) (F:=FQ)
@[simp,go_sem] theorem Af (t : TypeId) (w : World) : (zeroValue t).run TryQ.prog w = (zeroValue t).run Tryz.prog w:=by
 rw [TryQ.prog_eq]
 exact Pb (P:=Tryz.prog) (F:=FQ)
@[simp,go_sem] theorem Aka (d : Nat) (t : TypeId) : TryQ.prog.eqGuardType d t = Tryz.prog.eqGuardType d t:=Hq (P:=Tryz.prog) (F:=FQ) d t
@[simp,go_sem] theorem Ar9 : TryQ.prog.depth = Tryz.prog.depth:=Akw (P:=Tryz.prog) (F:=FQ)
@[simp,go_sem] theorem q_rt : TryQ.prog.rt = Tryz.prog.rt:=by rw [TryQ.prog_eq]
@[simp,go_sem] theorem Apy : TryQ.prog.globals = Tryz.prog.globals:=by rw [TryQ.prog_eq]
end
end Go.Mark
namespace Go.Proofs
open Go.Mark
abbrev FZ (n : Nat) (f : Func) : Prop:=TryQ.prog.funcs[n]? = some f
abbrev CZ (n : Nat) : Prop:=∀ (args : Array Value) (w : World),(callFunc n args).run TryQ.prog w = .ok (.enter n args) w
theorem qz {n : Nat} {f : Func} (h : Tryz.prog.funcs[n]? = some f) (hk : J6 f = true:=by kernel_rfl) : FZ n f:=Aqz h hk
theorem cq {n : Nat} {f : Func} {b : Code} (h : FZ n f) (hn : (f.name == "runtime.NumGoroutine") = false:=by rfl) (hb : f.body = some b:=by rfl) : CZ n:=fun _ w=>(J5 h hn hb w).1
@[simp] theorem TryQ.func132 : TryQ.prog.funcs[132]? = some Tryz.f132:=Ms Tryz.func132 rfl
@[simp] theorem TryQ.func142 : TryQ.prog.funcs[142]? = some Tryz.f142:=Ms Tryz.func142 rfl
@[simp] theorem TryQ.func257 : TryQ.prog.funcs[257]? = some Tryz.f257:=Ms Tryz.func257 rfl
@[simp] theorem TryQ.func258 : TryQ.prog.funcs[258]? = some Tryz.f258:=Ms Tryz.func258 rfl
@[simp] theorem TryQ.func259 : TryQ.prog.funcs[259]? = some Tryz.f259:=Ms Tryz.func259 rfl
@[simp] theorem TryQ.func287 : TryQ.prog.funcs[287]? = some Tryz.f287:=Ms Tryz.func287 rfl
@[simp] theorem TryQ.func288 : TryQ.prog.funcs[288]? = some Tryz.f288:=Ms Tryz.func288 rfl
@[simp] theorem TryQ.func289 : TryQ.prog.funcs[289]? = some Tryz.f289:=Ms Tryz.func289 rfl
@[simp] theorem TryQ.func362 : TryQ.prog.funcs[362]? = some Tryz.f362:=Ms Tryz.func362 rfl
@[simp] theorem TryQ.func381 : TryQ.prog.funcs[381]? = some Tryz.f381:=Ms Tryz.func381 rfl
@[simp] theorem TryQ.func382 : TryQ.prog.funcs[382]? = some Tryz.f382:=Ms Tryz.func382 rfl
@[simp] theorem TryQ.func383 : TryQ.prog.funcs[383]? = some Tryz.f383:=Ms Tryz.func383 rfl
@[simp] theorem TryQ.func384 : TryQ.prog.funcs[384]? = some Tryz.f384:=Ms Tryz.func384 rfl
@[simp] theorem TryQ.func12 : FZ 12 Tryz.f12:=qz Tryz.func12
@[simp] theorem TryQ.func13 : FZ 13 Tryz.f13:=qz Tryz.func13
@[simp] theorem TryQ.func15 : FZ 15 Tryz.f15:=qz Tryz.func15
@[simp] theorem TryQ.func16 : FZ 16 Tryz.f16:=qz Tryz.func16
@[simp] theorem TryQ.func17 : FZ 17 Tryz.f17:=qz Tryz.func17
@[simp] theorem TryQ.func21 : FZ 21 Tryz.f21:=qz Tryz.func21
@[simp] theorem TryQ.func26 : FZ 26 Tryz.f26:=qz Tryz.func26
@[simp] theorem TryQ.func27 : FZ 27 Tryz.f27:=qz Tryz.func27
@[simp] theorem TryQ.func33 : FZ 33 Tryz.f33:=qz Tryz.func33
@[simp] theorem TryQ.func34 : FZ 34 Tryz.f34:=qz Tryz.func34
@[simp] theorem TryQ.func35 : FZ 35 Tryz.f35:=qz Tryz.func35
@[simp] theorem TryQ.func36 : FZ 36 Tryz.f36:=qz Tryz.func36
@[simp] theorem TryQ.func38 : FZ 38 Tryz.f38:=qz Tryz.func38
@[simp] theorem TryQ.func40 : FZ 40 Tryz.f40:=qz Tryz.func40
@[simp] theorem TryQ.func41 : FZ 41 Tryz.f41:=qz Tryz.func41
@[simp] theorem TryQ.func48 : FZ 48 Tryz.f48:=qz Tryz.func48
@[simp] theorem TryQ.func49 : FZ 49 Tryz.f49:=qz Tryz.func49
@[simp] theorem TryQ.func50 : FZ 50 Tryz.f50:=qz Tryz.func50
@[simp] theorem TryQ.func51 : FZ 51 Tryz.f51:=qz Tryz.func51
@[simp] theorem TryQ.func52 : FZ 52 Tryz.f52:=qz Tryz.func52
@[simp] theorem TryQ.func53 : FZ 53 Tryz.f53:=qz Tryz.func53
@[simp] theorem TryQ.func54 : FZ 54 Tryz.f54:=qz Tryz.func54
@[simp] theorem TryQ.func55 : FZ 55 Tryz.f55:=qz Tryz.func55
@[simp] theorem TryQ.func56 : FZ 56 Tryz.f56:=qz Tryz.func56
@[simp] theorem TryQ.func57 : FZ 57 Tryz.f57:=qz Tryz.func57
@[simp] theorem TryQ.func58 : FZ 58 Tryz.f58:=qz Tryz.func58
@[simp] theorem TryQ.func59 : FZ 59 Tryz.f59:=qz Tryz.func59
@[simp] theorem TryQ.func61 : FZ 61 Tryz.f61:=qz Tryz.func61
@[simp] theorem TryQ.func62 : FZ 62 Tryz.f62:=qz Tryz.func62
@[simp] theorem TryQ.func63 : FZ 63 Tryz.f63:=qz Tryz.func63
@[simp] theorem TryQ.func64 : FZ 64 Tryz.f64:=qz Tryz.func64
@[simp] theorem TryQ.func65 : FZ 65 Tryz.f65:=qz Tryz.func65
@[simp] theorem TryQ.func66 : FZ 66 Tryz.f66:=qz Tryz.func66
@[simp] theorem TryQ.func67 : FZ 67 Tryz.f67:=qz Tryz.func67
@[simp] theorem TryQ.func72 : FZ 72 Tryz.f72:=qz Tryz.func72
@[simp] theorem TryQ.func73 : FZ 73 Tryz.f73:=qz Tryz.func73
@[simp] theorem TryQ.func74 : FZ 74 Tryz.f74:=qz Tryz.func74
@[simp] theorem TryQ.func81 : FZ 81 Tryz.f81:=qz Tryz.func81
@[simp] theorem TryQ.func82 : FZ 82 Tryz.f82:=qz Tryz.func82
@[simp] theorem TryQ.func83 : FZ 83 Tryz.f83:=qz Tryz.func83
@[simp] theorem TryQ.func84 : FZ 84 Tryz.f84:=qz Tryz.func84
@[simp] theorem TryQ.func85 : FZ 85 Tryz.f85:=qz Tryz.func85
@[simp] theorem TryQ.func86 : FZ 86 Tryz.f86:=qz Tryz.func86
@[simp] theorem TryQ.func87 : FZ 87 Tryz.f87:=qz Tryz.func87
@[simp] theorem TryQ.func88 : FZ 88 Tryz.f88:=qz Tryz.func88
@[simp] theorem TryQ.func89 : FZ 89 Tryz.f89:=qz Tryz.func89
@[simp] theorem TryQ.func91 : FZ 91 Tryz.f91:=qz Tryz.func91
@[simp] theorem TryQ.func92 : FZ 92 Tryz.f92:=qz Tryz.func92
@[simp] theorem TryQ.func93 : FZ 93 Tryz.f93:=qz Tryz.func93
@[simp] theorem TryQ.func94 : FZ 94 Tryz.f94:=qz Tryz.func94
@[simp] theorem TryQ.func95 : FZ 95 Tryz.f95:=qz Tryz.func95
@[simp] theorem TryQ.func96 : FZ 96 Tryz.f96:=qz Tryz.func96
@[simp] theorem TryQ.func101 : FZ 101 Tryz.f101:=qz Tryz.func101
@[simp] theorem TryQ.func102 : FZ 102 Tryz.f102:=qz Tryz.func102
@[simp] theorem TryQ.func103 : FZ 103 Tryz.f103:=qz Tryz.func103
@[simp] theorem TryQ.func104 : FZ 104 Tryz.f104:=qz Tryz.func104
@[simp] theorem TryQ.func105 : FZ 105 Tryz.f105:=qz Tryz.func105
@[simp] theorem TryQ.func106 : FZ 106 Tryz.f106:=qz Tryz.func106
@[simp] theorem TryQ.func117 : FZ 117 Tryz.f117:=qz Tryz.func117
@[simp] theorem TryQ.func130 : FZ 130 Tryz.f130:=qz Tryz.func130
@[simp] theorem TryQ.func131 : FZ 131 Tryz.f131:=qz Tryz.func131
@[simp] theorem TryQ.func133 : FZ 133 Tryz.f133:=qz Tryz.func133
@[simp] theorem TryQ.func134 : FZ 134 Tryz.f134:=qz Tryz.func134
@[simp] theorem TryQ.func136 : FZ 136 Tryz.f136:=qz Tryz.func136
@[simp] theorem TryQ.func137 : FZ 137 Tryz.f137:=qz Tryz.func137
@[simp] theorem TryQ.func139 : FZ 139 Tryz.f139:=qz Tryz.func139
@[simp] theorem TryQ.func140 : FZ 140 Tryz.f140:=qz Tryz.func140
@[simp] theorem TryQ.func141 : FZ 141 Tryz.f141:=qz Tryz.func141
@[simp] theorem TryQ.func147 : FZ 147 Tryz.f147:=qz Tryz.func147
@[simp] theorem TryQ.func158 : FZ 158 Tryz.f158:=qz Tryz.func158
@[simp] theorem TryQ.func159 : FZ 159 Tryz.f159:=qz Tryz.func159
@[simp] theorem TryQ.func160 : FZ 160 Tryz.f160:=qz Tryz.func160
@[simp] theorem TryQ.func161 : FZ 161 Tryz.f161:=qz Tryz.func161
@[simp] theorem TryQ.func162 : FZ 162 Tryz.f162:=qz Tryz.func162
@[simp] theorem TryQ.func163 : FZ 163 Tryz.f163:=qz Tryz.func163
@[simp] theorem TryQ.func175 : FZ 175 Tryz.f175:=qz Tryz.func175
@[simp] theorem TryQ.func176 : FZ 176 Tryz.f176:=qz Tryz.func176
@[simp] theorem TryQ.func177 : FZ 177 Tryz.f177:=qz Tryz.func177
@[simp] theorem TryQ.func178 : FZ 178 Tryz.f178:=qz Tryz.func178
@[simp] theorem TryQ.func180 : FZ 180 Tryz.f180:=qz Tryz.func180
@[simp] theorem TryQ.func191 : FZ 191 Tryz.f191:=qz Tryz.func191
@[simp] theorem TryQ.func192 : FZ 192 Tryz.f192:=qz Tryz.func192
@[simp] theorem TryQ.func193 : FZ 193 Tryz.f193:=qz Tryz.func193
@[simp] theorem TryQ.func194 : FZ 194 Tryz.f194:=qz Tryz.func194
@[simp] theorem TryQ.func195 : FZ 195 Tryz.f195:=qz Tryz.func195
@[simp] theorem TryQ.func196 : FZ 196 Tryz.f196:=qz Tryz.func196
@[simp] theorem TryQ.func197 : FZ 197 Tryz.f197:=qz Tryz.func197
@[simp] theorem TryQ.func198 : FZ 198 Tryz.f198:=qz Tryz.func198
@[simp] theorem TryQ.func199 : FZ 199 Tryz.f199:=qz Tryz.func199
@[simp] theorem TryQ.func200 : FZ 200 Tryz.f200:=qz Tryz.func200
@[simp] theorem TryQ.func201 : FZ 201 Tryz.f201:=qz Tryz.func201
@[simp] theorem TryQ.func202 : FZ 202 Tryz.f202:=qz Tryz.func202
@[simp] theorem TryQ.func203 : FZ 203 Tryz.f203:=qz Tryz.func203
@[simp] theorem TryQ.func204 : FZ 204 Tryz.f204:=qz Tryz.func204
@[simp] theorem TryQ.func205 : FZ 205 Tryz.f205:=qz Tryz.func205
@[simp] theorem TryQ.func221 : FZ 221 Tryz.f221:=qz Tryz.func221
@[simp] theorem TryQ.func222 : FZ 222 Tryz.f222:=qz Tryz.func222
@[simp] theorem TryQ.func223 : FZ 223 Tryz.f223:=qz Tryz.func223
@[simp] theorem TryQ.func224 : FZ 224 Tryz.f224:=qz Tryz.func224
@[simp] theorem TryQ.func228 : FZ 228 Tryz.f228:=qz Tryz.func228
@[simp] theorem TryQ.func229 : FZ 229 Tryz.f229:=qz Tryz.func229
@[simp] theorem TryQ.func230 : FZ 230 Tryz.f230:=qz Tryz.func230
@[simp] theorem TryQ.func231 : FZ 231 Tryz.f231:=qz Tryz.func231
@[simp] theorem TryQ.func232 : FZ 232 Tryz.f232:=qz Tryz.func232
@[simp] theorem TryQ.func233 : FZ 233 Tryz.f233:=qz Tryz.func233
@[simp] theorem TryQ.func234 : FZ 234 Tryz.f234:=qz Tryz.func234
@[simp] theorem TryQ.func235 : FZ 235 Tryz.f235:=qz Tryz.func235
@[simp] theorem TryQ.func236 : FZ 236 Tryz.f236:=qz Tryz.func236
@[simp] theorem TryQ.func260 : FZ 260 Tryz.f260:=qz Tryz.func260
@[simp] theorem TryQ.func261 : FZ 261 Tryz.f261:=qz Tryz.func261
@[simp] theorem TryQ.func262 : FZ 262 Tryz.f262:=qz Tryz.func262
@[simp] theorem TryQ.func263 : FZ 263 Tryz.f263:=qz Tryz.func263
@[simp] theorem TryQ.func264 : FZ 264 Tryz.f264:=qz Tryz.func264
@[simp] theorem TryQ.func265 : FZ 265 Tryz.f265:=qz Tryz.func265
@[simp] theorem TryQ.func266 : FZ 266 Tryz.f266:=qz Tryz.func266
@[simp] theorem TryQ.func267 : FZ 267 Tryz.f267:=qz Tryz.func267
@[simp] theorem TryQ.func268 : FZ 268 Tryz.f268:=qz Tryz.func268
@[simp] theorem TryQ.func269 : FZ 269 Tryz.f269:=qz Tryz.func269
@[simp] theorem TryQ.func270 : FZ 270 Tryz.f270:=qz Tryz.func270
@[simp] theorem TryQ.func271 : FZ 271 Tryz.f271:=qz Tryz.func271
@[simp] theorem TryQ.func272 : FZ 272 Tryz.f272:=qz Tryz.func272
@[simp] theorem TryQ.func290 : FZ 290 Tryz.f290:=qz Tryz.func290
@[simp] theorem TryQ.func291 : FZ 291 Tryz.f291:=qz Tryz.func291
@[simp] theorem TryQ.func292 : FZ 292 Tryz.f292:=qz Tryz.func292
@[simp] theorem TryQ.func293 : FZ 293 Tryz.f293:=qz Tryz.func293
@[simp] theorem TryQ.func294 : FZ 294 Tryz.f294:=qz Tryz.func294
@[simp] theorem TryQ.func295 : FZ 295 Tryz.f295:=qz Tryz.func295
@[simp] theorem TryQ.func296 : FZ 296 Tryz.f296:=qz Tryz.func296
@[simp] theorem TryQ.func297 : FZ 297 Tryz.f297:=qz Tryz.func297
@[simp] theorem TryQ.func300 : FZ 300 Tryz.f300:=qz Tryz.func300
@[simp] theorem TryQ.func301 : FZ 301 Tryz.f301:=qz Tryz.func301
@[simp] theorem TryQ.func302 : FZ 302 Tryz.f302:=qz Tryz.func302
@[simp] theorem TryQ.func303 : FZ 303 Tryz.f303:=qz Tryz.func303
@[simp] theorem TryQ.func304 : FZ 304 Tryz.f304:=qz Tryz.func304
@[simp] theorem TryQ.func306 : FZ 306 Tryz.f306:=qz Tryz.func306
@[simp] theorem TryQ.func307 : FZ 307 Tryz.f307:=qz Tryz.func307
@[simp] theorem TryQ.func308 : FZ 308 Tryz.f308:=qz Tryz.func308
@[simp] theorem TryQ.func309 : FZ 309 Tryz.f309:=qz Tryz.func309
@[simp] theorem TryQ.func310 : FZ 310 Tryz.f310:=qz Tryz.func310
@[simp] theorem TryQ.func316 : FZ 316 Tryz.f316:=qz Tryz.func316
@[simp] theorem TryQ.func317 : FZ 317 Tryz.f317:=qz Tryz.func317
@[simp] theorem TryQ.func318 : FZ 318 Tryz.f318:=qz Tryz.func318
@[simp] theorem TryQ.func319 : FZ 319 Tryz.f319:=qz Tryz.func319
@[simp] theorem TryQ.func320 : FZ 320 Tryz.f320:=qz Tryz.func320
@[simp] theorem TryQ.func322 : FZ 322 Tryz.f322:=qz Tryz.func322
@[simp] theorem TryQ.func323 : FZ 323 Tryz.f323:=qz Tryz.func323
@[simp] theorem TryQ.func325 : FZ 325 Tryz.f325:=qz Tryz.func325
@[simp] theorem TryQ.func326 : FZ 326 Tryz.f326:=qz Tryz.func326
@[simp] theorem TryQ.func327 : FZ 327 Tryz.f327:=qz Tryz.func327
@[simp] theorem TryQ.func329 : FZ 329 Tryz.f329:=qz Tryz.func329
@[simp] theorem TryQ.func330 : FZ 330 Tryz.f330:=qz Tryz.func330
@[simp] theorem TryQ.func332 : FZ 332 Tryz.f332:=qz Tryz.func332
@[simp] theorem TryQ.func333 : FZ 333 Tryz.f333:=qz Tryz.func333
@[simp] theorem TryQ.func335 : FZ 335 Tryz.f335:=qz Tryz.func335
@[simp] theorem TryQ.func337 : FZ 337 Tryz.f337:=qz Tryz.func337
@[simp] theorem TryQ.func339 : FZ 339 Tryz.f339:=qz Tryz.func339
@[simp] theorem TryQ.func340 : FZ 340 Tryz.f340:=qz Tryz.func340
@[simp] theorem TryQ.func341 : FZ 341 Tryz.f341:=qz Tryz.func341
@[simp] theorem TryQ.func342 : FZ 342 Tryz.f342:=qz Tryz.func342
@[simp] theorem TryQ.func343 : FZ 343 Tryz.f343:=qz Tryz.func343
@[simp] theorem TryQ.func344 : FZ 344 Tryz.f344:=qz Tryz.func344
@[simp] theorem TryQ.func346 : FZ 346 Tryz.f346:=qz Tryz.func346
@[simp] theorem TryQ.func366 : FZ 366 Tryz.f366:=qz Tryz.func366
@[simp] theorem TryQ.func369 : FZ 369 Tryz.f369:=qz Tryz.func369
@[simp] theorem TryQ.func370 : FZ 370 Tryz.f370:=qz Tryz.func370
@[simp] theorem TryQ.func371 : FZ 371 Tryz.f371:=qz Tryz.func371
@[simp] theorem TryQ.func372 : FZ 372 Tryz.f372:=qz Tryz.func372
@[simp] theorem TryQ.func375 : FZ 375 Tryz.f375:=qz Tryz.func375
@[simp] theorem TryQ.func391 : FZ 391 Tryz.f391:=qz Tryz.func391
@[simp] theorem TryQ.call13 : CZ 13:=cq TryQ.func13
@[simp] theorem TryQ.call15 : CZ 15:=cq TryQ.func15
@[simp] theorem TryQ.call17 : CZ 17:=cq TryQ.func17
@[simp] theorem TryQ.call21 : CZ 21:=cq TryQ.func21
@[simp] theorem TryQ.call26 : CZ 26:=cq TryQ.func26
@[simp] theorem TryQ.call27 : CZ 27:=cq TryQ.func27
@[simp] theorem TryQ.call33 : CZ 33:=cq TryQ.func33
@[simp] theorem TryQ.call34 : CZ 34:=cq TryQ.func34
@[simp] theorem TryQ.call36 : CZ 36:=cq TryQ.func36
@[simp] theorem TryQ.call48 : CZ 48:=cq TryQ.func48
@[simp] theorem TryQ.call49 : CZ 49:=cq TryQ.func49
@[simp] theorem TryQ.call50 : CZ 50:=cq TryQ.func50
@[simp] theorem TryQ.call51 : CZ 51:=cq TryQ.func51
@[simp] theorem TryQ.call52 : CZ 52:=cq TryQ.func52
@[simp] theorem TryQ.call53 : CZ 53:=cq TryQ.func53
@[simp] theorem TryQ.call54 : CZ 54:=cq TryQ.func54
@[simp] theorem TryQ.call55 : CZ 55:=cq TryQ.func55
@[simp] theorem TryQ.call56 : CZ 56:=cq TryQ.func56
@[simp] theorem TryQ.call57 : CZ 57:=cq TryQ.func57
@[simp] theorem TryQ.call58 : CZ 58:=cq TryQ.func58
@[simp] theorem TryQ.call59 : CZ 59:=cq TryQ.func59
@[simp] theorem TryQ.call61 : CZ 61:=cq TryQ.func61
@[simp] theorem TryQ.call62 : CZ 62:=cq TryQ.func62
@[simp] theorem TryQ.call63 : CZ 63:=cq TryQ.func63
@[simp] theorem TryQ.call64 : CZ 64:=cq TryQ.func64
@[simp] theorem TryQ.call65 : CZ 65:=cq TryQ.func65
@[simp] theorem TryQ.call66 : CZ 66:=cq TryQ.func66
@[simp] theorem TryQ.call81 : CZ 81:=cq TryQ.func81
@[simp] theorem TryQ.call82 : CZ 82:=cq TryQ.func82
@[simp] theorem TryQ.call83 : CZ 83:=cq TryQ.func83
@[simp] theorem TryQ.call84 : CZ 84:=cq TryQ.func84
@[simp] theorem TryQ.call85 : CZ 85:=cq TryQ.func85
@[simp] theorem TryQ.call86 : CZ 86:=cq TryQ.func86
@[simp] theorem TryQ.call87 : CZ 87:=cq TryQ.func87
@[simp] theorem TryQ.call88 : CZ 88:=cq TryQ.func88
@[simp] theorem TryQ.call89 : CZ 89:=cq TryQ.func89
@[simp] theorem TryQ.call91 : CZ 91:=cq TryQ.func91
@[simp] theorem TryQ.call92 : CZ 92:=cq TryQ.func92
@[simp] theorem TryQ.call93 : CZ 93:=cq TryQ.func93
@[simp] theorem TryQ.call94 : CZ 94:=cq TryQ.func94
@[simp] theorem TryQ.call95 : CZ 95:=cq TryQ.func95
@[simp] theorem TryQ.call96 : CZ 96:=cq TryQ.func96
@[simp] theorem TryQ.call101 : CZ 101:=cq TryQ.func101
@[simp] theorem TryQ.call105 : CZ 105:=cq TryQ.func105
@[simp] theorem TryQ.call106 : CZ 106:=cq TryQ.func106
@[simp] theorem TryQ.call117 : CZ 117:=cq TryQ.func117
@[simp] theorem TryQ.call130 : CZ 130:=cq TryQ.func130
@[simp] theorem TryQ.call131 : CZ 131:=cq TryQ.func131
@[simp] theorem TryQ.call133 : CZ 133:=cq TryQ.func133
@[simp] theorem TryQ.call134 : CZ 134:=cq TryQ.func134
@[simp] theorem TryQ.call136 : CZ 136:=cq TryQ.func136
@[simp] theorem TryQ.call137 : CZ 137:=cq TryQ.func137
@[simp] theorem TryQ.call139 : CZ 139:=cq TryQ.func139
@[simp] theorem TryQ.call140 : CZ 140:=cq TryQ.func140
@[simp] theorem TryQ.call141 : CZ 141:=cq TryQ.func141
@[simp] theorem TryQ.call147 : CZ 147:=cq TryQ.func147
@[simp] theorem TryQ.call161 : CZ 161:=cq TryQ.func161
@[simp] theorem TryQ.call162 : CZ 162:=cq TryQ.func162
@[simp] theorem TryQ.call163 : CZ 163:=cq TryQ.func163
@[simp] theorem TryQ.call175 : CZ 175:=cq TryQ.func175
@[simp] theorem TryQ.call176 : CZ 176:=cq TryQ.func176
@[simp] theorem TryQ.call177 : CZ 177:=cq TryQ.func177
@[simp] theorem TryQ.call178 : CZ 178:=cq TryQ.func178
@[simp] theorem TryQ.call180 : CZ 180:=cq TryQ.func180
@[simp] theorem TryQ.call202 : CZ 202:=cq TryQ.func202
@[simp] theorem TryQ.call203 : CZ 203:=cq TryQ.func203
@[simp] theorem TryQ.call205 : CZ 205:=cq TryQ.func205
@[simp] theorem TryQ.call221 : CZ 221:=cq TryQ.func221
@[simp] theorem TryQ.call222 : CZ 222:=cq TryQ.func222
@[simp] theorem TryQ.call223 : CZ 223:=cq TryQ.func223
@[simp] theorem TryQ.call224 : CZ 224:=cq TryQ.func224
@[simp] theorem TryQ.call234 : CZ 234:=cq TryQ.func234
@[simp] theorem TryQ.call236 : CZ 236:=cq TryQ.func236
@[simp] theorem TryQ.call260 : CZ 260:=cq TryQ.func260
@[simp] theorem TryQ.call261 : CZ 261:=cq TryQ.func261
@[simp] theorem TryQ.call262 : CZ 262:=cq TryQ.func262
@[simp] theorem TryQ.call263 : CZ 263:=cq TryQ.func263
@[simp] theorem TryQ.call290 : CZ 290:=cq TryQ.func290
@[simp] theorem TryQ.call291 : CZ 291:=cq TryQ.func291
@[simp] theorem TryQ.call292 : CZ 292:=cq TryQ.func292
@[simp] theorem TryQ.call293 : CZ 293:=cq TryQ.func293
@[simp] theorem TryQ.call294 : CZ 294:=cq TryQ.func294
@[simp] theorem TryQ.call295 : CZ 295:=cq TryQ.func295
@[simp] theorem TryQ.call296 : CZ 296:=cq TryQ.func296
@[simp] theorem TryQ.call297 : CZ 297:=cq TryQ.func297
@[simp] theorem TryQ.call300 : CZ 300:=cq TryQ.func300
@[simp] theorem TryQ.call301 : CZ 301:=cq TryQ.func301
@[simp] theorem TryQ.call302 : CZ 302:=cq TryQ.func302
@[simp] theorem TryQ.call303 : CZ 303:=cq TryQ.func303
@[simp] theorem TryQ.call304 : CZ 304:=cq TryQ.func304
@[simp] theorem TryQ.call306 : CZ 306:=cq TryQ.func306
@[simp] theorem TryQ.call307 : CZ 307:=cq TryQ.func307
@[simp] theorem TryQ.call316 : CZ 316:=cq TryQ.func316
@[simp] theorem TryQ.call317 : CZ 317:=cq TryQ.func317
@[simp] theorem TryQ.call318 : CZ 318:=cq TryQ.func318
@[simp] theorem TryQ.call319 : CZ 319:=cq TryQ.func319
@[simp] theorem TryQ.call320 : CZ 320:=cq TryQ.func320
@[simp] theorem TryQ.call322 : CZ 322:=cq TryQ.func322
@[simp] theorem TryQ.call323 : CZ 323:=cq TryQ.func323
@[simp] theorem TryQ.call325 : CZ 325:=cq TryQ.func325
@[simp] theorem TryQ.call326 : CZ 326:=cq TryQ.func326
@[simp] theorem TryQ.call327 : CZ 327:=cq TryQ.func327
@[simp] theorem TryQ.call329 : CZ 329:=cq TryQ.func329
@[simp] theorem TryQ.call330 : CZ 330:=cq TryQ.func330
@[simp] theorem TryQ.call332 : CZ 332:=cq TryQ.func332
@[simp] theorem TryQ.call333 : CZ 333:=cq TryQ.func333
@[simp] theorem TryQ.call335 : CZ 335:=cq TryQ.func335
@[simp] theorem TryQ.call337 : CZ 337:=cq TryQ.func337
@[simp] theorem TryQ.call340 : CZ 340:=cq TryQ.func340
@[simp] theorem TryQ.call341 : CZ 341:=cq TryQ.func341
@[simp] theorem TryQ.call342 : CZ 342:=cq TryQ.func342
@[simp] theorem TryQ.call343 : CZ 343:=cq TryQ.func343
@[simp] theorem TryQ.call344 : CZ 344:=cq TryQ.func344
@[simp] theorem TryQ.call346 : CZ 346:=cq TryQ.func346
@[simp] theorem TryQ.call366 : CZ 366:=cq TryQ.func366
@[simp] theorem TryQ.call369 : CZ 369:=cq TryQ.func369
@[simp] theorem TryQ.call370 : CZ 370:=cq TryQ.func370
@[simp] theorem TryQ.call371 : CZ 371:=cq TryQ.func371
@[simp] theorem TryQ.call372 : CZ 372:=cq TryQ.func372
@[simp] theorem TryQ.call375 : CZ 375:=cq TryQ.func375
@[simp] theorem TryQ.call391 : CZ 391:=cq TryQ.func391
theorem TryQ.ntmps141 : type_of% Tryz.ntmps141:=Tryz.ntmps141
theorem TryQ.ntmps236 : type_of% Tryz.ntmps236:=Tryz.ntmps236
theorem TryQ.ntmps260 : type_of% Tryz.ntmps260:=Tryz.ntmps260
theorem TryQ.ntmps316 : type_of% Tryz.ntmps316:=Tryz.ntmps316
theorem TryQ.ntmps317 : type_of% Tryz.ntmps317:=Tryz.ntmps317
theorem TryQ.ntmps372 : type_of% Tryz.ntmps372:=Tryz.ntmps372
theorem TryQ.ntmps375 : type_of% Tryz.ntmps375:=Tryz.ntmps375
end Go.Proofs
