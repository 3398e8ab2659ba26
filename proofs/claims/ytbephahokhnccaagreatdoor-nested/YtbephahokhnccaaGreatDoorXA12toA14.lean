import Derived.Test.YtbephahokhnccaaGreatDoorXA8toA20
import Derived.Conc.Listed
namespace Go.Lift
section
variable {α β : Type} {P : Program} {F : Array Func} {Z : Veil}
def Am8 : Option TypeDesc -> Bool
 | some (.int .u8)=>true
 | _=>false
def Ahd (P : Program) : Option TypeDesc -> Option TypeDesc -> Bool
 | some (.int _),some (.int _)=>true
 | some .string,some .string=>true
 | some .string,some (.slice e)=>Am8 (P.underlying e)
 | some (.slice e),some .string=>Am8 (P.underlying e)
 | _,_=>false
def Gi (n : Nat) : Builtin -> Bool
 | .len | .append | .copy | .delete | .clear | .min | .max=>true
 | .unsafeString=>n == 2
 | _=>false
def Z0 (P : Program) : Op -> Bool
 | .move _ | .assign _ | .pick .. | .alloc _ | .box .. | .build .. | .buildSlice .. | .load .. | .store .. | .nilCheck _ | .binOp .. | .unOp ..=>true
 | .convert a b _=>Ahd P (P.underlying a) (P.underlying b)
 | .makeInterface .. | .makeFunc .. | .makeMap .. | .makeSlice .. | .slice .. | .fieldAddr .. | .field .. | .indexAddr .. | .index .. | .lookup ..=>true
 | .panic _=>true
 | .mapUpdate .. | .insert .. | .range .. | .next .. | .entry .. | .typeAssert .. | .extract ..=>true
 | .call c=>match c.callee with
  | .builtin b=>Gi c.args.size b
  | _=>true
 | _=>false
def Gl (P : Program) (ops : Array Oper) : Bool:=ops.all fun o=>Z0 P o.op
def Br (P : Program) : Code -> Bool
 | .region _ ops _=>Gl P ops
 | .seq a b=>Br P a && Br P b
 | .cond _ a b=>Br P a && Br P b
 | .block _ b=>Br P b
 | .loop b=>Br P b
 | .scope b=>Br P b
 | .rangeFunc _ _ a b=>Br P a && Br P b
 | _=>true
def Em (P : Program) (F : Array Func) (Z : Veil) : Next -> Prop
 | .value _=>True
 | .skip=>True
 | .enter f _=>P.funcs[f]? = F[f]? /\ ∀ fn b,F[f]? = some fn -> fn.body = some b -> Br P b = true
 | .round _ _ _ a b=>Z.ok a /\ Z.ok b
 | _=>False
def Gives (Q : Program) (s : Sem α) (C : α -> Prop) : Prop:=∀ v a v',s.run Q v = .ok a v' -> C a
theorem Dy {Q : Program} {C : α -> Prop} {a : α} (h : C a) : Gives Q (pure a : Sem α) C:=by
 intro v b v' e
 cases e; exact h
theorem Dj {Q : Program} {x : Sem α} {f : α -> Sem β} {C : β -> Prop} (h : ∀ a,Gives Q (f a) C) : Gives Q (x >>= f) C:=by
 intro v b v' e
 rw [Sem.run_bind] at e
 cases hx : x.run Q v with
 | ok a w=>rw [hx] at e; exact h a w b v' e
 | halt k w=>rw [hx] at e; cases e
theorem Ep {Q : Program} {C : α -> Prop} (h : Halt) : Gives Q (.halt h : Sem α) C:=by
 intro v b v' e
 cases e
theorem Ey {Q : Program} {x : Sem α} {C : α -> Prop} (h : ∀ w,∃ k w',x.run Q w = .halt k w') : Gives Q x C:=by
 intro v b v' e
 obtain ⟨k,w',h⟩:=h v
 rw [h] at e; cases e
structure Fair (P : Program) (F : Array Func) (Z : Veil) : Prop where
 call : ∀ f args,Lk P F Z (callFunc f args)
 gives : ∀ f args,Gives (strip P F) (callFunc f args) (Em P F Z)
 ok : ∀ c,Z.ok c ↔ Br P c = true
 res : ∀ f : Nat,(F[f]?).map (·.results) = (P.funcs[f]?).map (·.results)
def Vl (Q : Program) (Z : Veil) (s : Sem α) (C : α -> Prop) : Prop:=∀ v a v',(∀ (b : Nat) (o : Obj),v.heap[b]? = some o -> Hl Z o) -> s.run Q v = .ok a v' -> C a
theorem Gives.t {Q : Program} {s : Sem α} {C : α -> Prop} (h : Gives Q s C) : Vl Q Z s C:=fun v a v' _ e=>h v a v' e
def Yw : Target -> Prop
 | .fn _ _=>True
 | .nil=>True
 | _=>False
section
variable (H : Fair P F Z)
theorem Kg (H : Fair P F Z) (x : Value) (s : String) (y : Array Value) : Lk P F Z (callMethod x s y):=by
 unfold callMethod
 split
 ·refine Ca rfl ?_
  exact Ao (Ub _ _ _ _) (fun _=>H.call _ _)
 ·exact Be _
 ·exact Ap _
theorem Ic (H : Fair P F Z) (x : Value) (s : String) (y : Array Value) : Gives (strip P F) (callMethod x s y) (Em P F Z):=by
 unfold callMethod
 split
 ·exact Dj fun _=>Dj fun _=>H.gives _ _
 ·exact Ey (panics _ _)
 ·exact Ep _
theorem H8 (H : Fair P F Z) {t : Target} (ht : Yw t) (y : Array Value) : Lk P F Z (invoke t y):=by
 unfold invoke
 cases t with
 | nil=>exact Be _
 | fn f c =>
  cases f with
  | func f=>exact H.call _ _
  | method s =>
   dsimp only
   split
   ·exact Kg H _ _ _
   ·exact Ap _
  | methodOf t s =>
   dsimp only
   split
   ·exact Ao (Cs _) (fun d=>Kg H _ _ _)
   ·exact Ap _
  | via t p f b =>
   dsimp only
   split
   ·exact Ao (Rl _ _ _ _) (fun _=>H.call _ _)
   ·exact Ap _
  | yield l=>exact Aip _ _
 | _=>exact ht.elim
theorem Fa (H : Fair P F Z) {t : Target} (ht : Yw t) (y : Array Value) : Vl (strip P F) Z (invoke t y) (Em P F Z):=by
 unfold invoke
 cases t with
 | nil=>exact (Ey (panics _ _)).t
 | fn f c =>
  cases f with
  | func f=>exact (H.gives _ _).t
  | method s =>
   dsimp only
   split
   ·exact (Ic H _ _ _).t
   ·exact (Ep _).t
  | methodOf t s =>
   dsimp only
   split
   ·exact (Dj (fun d=>Ic H _ _ _)).t
   ·exact (Ep _).t
  | via t p f b =>
   dsimp only
   split
   ·exact (Dj fun _=>H.gives _ _).t
   ·exact (Ep _).t
  | yield l =>
   dsimp only
   intro v a v' hv e
   unfold Instr.yield Instr.getLoop at e
   rw [bind_assoc] at e
   cases hl : v.heap[l]? with
   | none=>simp [Go.getObj,bind,Sem.bind,Sem.run,hl] at e
   | some o =>
    have hf:=hv l o hl
    cases o <;> first
     | (simp [Go.getObj,bind,Sem.bind,Sem.run,hl,stuck] at e; done)
     | (rename_i r
        simp only [Go.getObj,bind,Sem.bind,Sem.run,hl,pure] at e
        split at e
        ·cases e
        ·cases e
         exact ⟨hf.1,hf.2.1⟩)
 | _=>exact ht.elim
end
theorem Cr {s : Sem Value} (h : Lk P F Z s) : Lk P F Z (do pure (Next.value (<- s))):=Ao h (fun _=>Aq _)
theorem Vs {s : Sem Unit} (h : Lk P F Z s) : Lk P F Z (do s; pure Next.skip):=Ao h (fun _=>Aq _)
theorem Aef {t : TypeId} {d : TypeDesc} (h : P.underlying t = some d) (w : World) : (underlying t).run (strip P F) w = .ok d w:=by
 show (match P.underlying t with | some d=>pure d | none=>stuck "no such type" : Sem TypeDesc).run (strip P F) w = _
 rw [h]; rfl
theorem Ll {t : TypeId} {d : TypeDesc} {f : TypeDesc -> Sem α} (h : P.underlying t = some d) (hf : Lk P F Z (f d)) : Lk P F Z (underlying t >>= f) :=
 Afk (Q:=fun x=>x = d) (Cs t) (fun w x w' e=>by rw [Aef h] at e; cases e; rfl) (fun x hx=>by subst hx; exact hf)
theorem Amq {o : Option TypeDesc} (h : Am8 o = true) : o = some (.int .u8):=by
 cases o with
 | none=>cases h
 | some d =>
  cases d with
  | int k=>cases k <;> first | rfl | cases h
  | _=>cases h
theorem Abu {a b : TypeId} (x : Value) (h : Ahd P (P.underlying a) (P.underlying b) = true) : Lk P F Z (convert a b x):=by
 unfold convert
 cases ua : P.underlying a with
 | none=>rw [ua] at h; cases h
 | some d =>
 cases ub : P.underlying b with
 | none=>rw [ua,ub] at h; cases d <;> cases h
 | some d' =>
 rw [ua,ub] at h
 refine Ll ua (Ll ub ?_)
 cases d <;> cases d' <;> first | (cases h; done) | skip
 ·cases x with
  | pointer q=>cases q <;> exact A7 _
  | float q n=>exact Sk _ _ _
  | int q n=>exact Aq _
  | _=>exact A7 _
 ·cases x with
  | int q n=>exact Aq _
  | string q=>exact Aq _
  | _=>exact F4 _
 ·cases x with
  | string q=>exact Ll (Amq h) (N8 _ _)
  | _=>first | exact F4 _ | (rename_i q _ _; cases q <;> exact F4 _)
 ·cases x with
  | int q n=>exact Aq _
  | string q=>exact Aq _
  | _=>exact Ll (Amq h) (Ob _)
theorem Abv {b : Builtin} {n : Nat} (hb : Gi n b = true) (t : Array TypeId) (u : TypeId) (c : Array Bool) (x : Array Value) (hx : x.size = n) : Lk P F Z (builtin b t u c x):=by
 cases b <;> first
  | (simp [Gi] at hb; done)
  | exact Cr (Aok _ _ _)
  | exact Cr (Afl _ _ _)
  | exact Cr (Alt _ _ _)
  | exact Cr (Afj _ _ _)
  | exact Cr (Ai9 _ _ _)
  | exact Cr (Aoi _ _ _)
  | exact Cr (Aoj _ _ _)
  | (refine Cr ?_
     simp only [Gi,beq_iff_eq] at hb
     obtain ⟨l⟩:=x
     match l,hx with
     | [p,y],_=>cases p <;> first | exact Pg _ _ _ _ | exact Ap _
     | [],h=>simp at h; omega
     | [_],h=>simp at h; omega
     | _ :: _ :: _ :: _,h=>simp at h; omega)
theorem Sw {b : Builtin} {n : Nat} (hb : Gi n b = true) (t : Array TypeId) (u : TypeId) (c : Array Bool) (x : Array Value) : Gives (strip P F) (builtin b t u c x) (Em P F Z):=by
 cases b <;> first
  | (simp [Gi] at hb; done)
  | exact Dj fun _=>Dy trivial
theorem Alq (H : Fair P F Z) (ρ : Operand -> Value) (o : Oper) (h : Z0 P o.op = true) (hp : ∀ x,o.op ≠ .panic x) : Lk P F Z (execOp ρ o):=by
 unfold execOp
 cases ho : o.op with
 | move x=>exact Aq _
 | assign x=>exact Aq _
 | pick c a b=>exact Ao (Ug _) (fun _=>Aq _)
 | alloc t=>exact Cr (Aje _ _ _)
 | box t x=>exact Cr (Aom _ _)
 | build t x=>exact Cr (Ajb _ _)
 | buildSlice t n x=>exact Cr (Sn _ _ _)
 | load t x=>exact Cr (Afc _ _)
 | store t x y=>exact Vs (Aba _ _ _)
 | nilCheck x =>
  dsimp only
  split
  ·exact Be _
  ·exact Be _
  ·exact Be _
  ·split
   ·exact Be _
   ·refine Ca rfl ?_
    refine Ao (Ow _ _ _ _) (fun _=>?_)
    exact Ii (A7 _) (Aq _)
   ·exact Aq _
  ·exact Aq _
 | binOp b t x y u=>exact Cr (Ao (Abr _ _ _ _ _ _) (fun _=>Ajc _ _ _ _))
 | unOp b t x=>exact Cr (Air _ _)
 | convert a b x =>
  rw [ho] at h
  simp only [Z0] at h
  exact Cr (Abu _ h)
 | makeInterface t x=>exact Cr (Oa _ _)
 | makeFunc f x y=>exact Cr (Zf _ _ _)
 | makeMap t x=>exact Cr (Abi _ _)
 | makeSlice t x y=>exact Cr (Wt _ _ _)
 | slice t x a b c=>exact Cr (Abb _ _ _ _ _)
 | fieldAddr t x n=>exact Cr (Abp _ _ _)
 | field t x n=>exact Cr (Ai6 _ _ _)
 | indexAddr t x y=>exact Cr (Abk _ _ _)
 | index t x y=>exact Cr (Ai5 _ _ _)
 | lookup t x y b=>exact Cr (Afb _ _ _ _)
 | mapUpdate t x y z=>exact Vs (L9 _ _ _ _)
 | insert t x y z=>exact Vs (L9 _ _ _ _)
 | range t x=>exact Cr (Aiy _ _)
 | next x b=>exact Cr (Aln _ _ _)
 | entry x=>exact Cr (Ai7 _)
 | typeAssert x t u b=>exact Cr (Sd _ _ _ _)
 | extract x n=>exact Cr (Abq _ _)
 | panic x=>exact absurd ho (hp x)
 | call c =>
  rw [ho] at h
  simp only [Z0] at h
  dsimp only
  unfold resolve
  dsimp only
  cases hc : c.callee with
  | builtin b =>
   rw [hc] at h
   simp only [pure_bind,invoke]
   exact Abv h _ _ _ _ (by simp)
  | invoke r s =>
   simp only [pure_bind]
   exact H8 H (t:=_) (by exact True.intro) _
  | value f =>
   dsimp only
   unfold Deferred.ofValue
   split
   ·simp only [pure_bind]; exact H8 H (t:=_) (by exact True.intro) _
   ·simp only [pure_bind]; exact H8 H (t:=_) (by exact True.intro) _
   ·exact Ap _
 | _=>rw [ho] at h; cases h
theorem gives_val {s : Sem Value} : Gives (strip P F) (do pure (Next.value (<- s))) (Em P F Z):=Dj fun x=>Dy (C:=Em P F Z) (a:=Next.value x) trivial
theorem gives_unit {s : Sem Unit} : Gives (strip P F) (do s; pure Next.skip) (Em P F Z):=Dj fun _=>Dy (C:=Em P F Z) (a:=Next.skip) trivial
theorem Ab7 (H : Fair P F Z) (ρ : Operand -> Value) (o : Oper) (h : Z0 P o.op = true) (hp : ∀ x,o.op ≠ .panic x) : Vl (strip P F) Z (execOp ρ o) (Em P F Z):=by
 unfold execOp
 cases ho : o.op with
 | panic x=>exact absurd ho (hp x)
 | nilCheck x =>
  dsimp only
  split
  ·exact (Ey (panics _ _)).t
  ·exact (Ey (panics _ _)).t
  ·exact (Ey (panics _ _)).t
  ·split
   ·exact (Ey (panics _ _)).t
   ·refine (Dj fun _=>Dj fun _=>?_ : Gives _ _ _).t
    split
    ·exact Ep _
    ·exact Dy (C:=Em P F Z) (a:=Next.value _) trivial
   ·exact (Dy (C:=Em P F Z) (a:=Next.value _) trivial).t
  ·exact (Dy (C:=Em P F Z) (a:=Next.value _) trivial).t
 | call c =>
  rw [ho] at h
  simp only [Z0] at h
  dsimp only
  unfold resolve
  dsimp only
  cases hc : c.callee with
  | builtin b =>
   rw [hc] at h
   simp only [pure_bind,invoke]
   exact (Sw h _ _ _ _).t
  | invoke r s =>
   simp only [pure_bind]
   exact Fa H (t:=_) (by exact True.intro) _
  | value f =>
   dsimp only
   unfold Deferred.ofValue
   split
   ·simp only [pure_bind]; exact Fa H (t:=_) (by exact True.intro) _
   ·simp only [pure_bind]; exact Fa H (t:=_) (by exact True.intro) _
   ·exact (Ep _).t
 | _=>first
  | (rw [ho] at h; cases h; done)
  | exact gives_val.t
  | exact gives_unit.t
  | exact (Dy (C:=Em P F Z) (a:=Next.value _) trivial).t
  | exact (Dj fun _=>Dy trivial : Gives _ _ _).t
end
section
variable {α β : Type} {P : Program} {F : Array Func} {Z : Veil}
def Dc (P : Program) : Item -> Bool
 | .code c=>Br P c
 | .inLoop c=>Br P c
 | .inScope c=>Br P c
 | .inRegion ops _=>Gl P ops
 | .call ..=>false
 | .extern ..=>false
 | _=>true
structure TameF (P : Program) (fr : Frame) : Prop where
 todo : ∀ x ∈ fr.todo,Dc P x = true
 defers : ∀ d ∈ fr.defers,∃ r,d = { target:=.collected r,args:=#[] }
 mode : fr.mode = .run \/ fr.mode = .returning
 kind : fr.kind = .normal
theorem Aes {ops : Array Oper} (h : Gl P ops = true) {i : Nat} {o : Oper} (ho : ops[i]? = some o) : Z0 P o.op = true:=by
 unfold Gl at h
 rw [Array.all_eq_true] at h
 obtain ⟨hi,rfl⟩:=Array.getElem?_eq_some_iff.1 ho
 exact h i hi
theorem I1 : ∀ {c : Code} {l : Nat} {d : Code},Br P c = true -> findLabel c l = some d -> Br P d = true
 | .seq a b,l,d,h,e=>by
  simp only [Br,Bool.and_eq_true] at h
  simp only [findLabel] at e
  cases ha : findLabel a l with
  | some r =>
   rw [ha] at e
   cases e
   simp only [Br,Bool.and_eq_true]
   exact ⟨I1 h.1 ha,h.2⟩
  | none=>rw [ha] at e; exact I1 h.2 e
 | .label m,l,d,_,e=>by
  simp only [findLabel] at e
  split at e
  ·cases e; rfl
  ·cases e
 | .skip,_,_,_,e | .region ..,_,_,_,e | .cond ..,_,_,_,e | .block ..,_,_,_,e | .loop ..,_,_,_,e | .rangeFunc ..,_,_,_,e | .exit ..,_,_,_,e | .scope ..,_,_,_,e | .goto ..,_,_,_,e | .ret,_,_,_,e | .refuse ..,_,_,_,e=>by simp [findLabel] at e
theorem Nv {id : Nat} : ∀ {k k' : List Item},(∀ x ∈ k,Dc P x = true) -> exitTo id k = some k' -> ∀ x ∈ k',Dc P x = true
 | [],_,_,e=>by simp [exitTo] at e
 | x :: k,k',h,e=>by
  have hk : ∀ y ∈ k,Dc P y = true:=fun y hy=>h y (by simp [hy])
  cases x <;> first
   | exact Nv hk (by simpa [exitTo] using e)
   | (simp only [exitTo] at e
      split at e
      ·cases e; exact hk
      ·exact Nv hk e)
theorem Nt {l : Nat} : ∀ {k k' : List Item},(∀ x ∈ k,Dc P x = true) -> gotoIn l k = some k' -> ∀ x ∈ k',Dc P x = true
 | [],_,_,e=>by simp [gotoIn] at e
 | x :: k,k',h,e=>by
  have hk : ∀ y ∈ k,Dc P y = true:=fun y hy=>h y (by simp [hy])
  have hx:=h x (by simp)
  cases x <;> first
   | exact Nt hk (by simpa [gotoIn] using e)
   | (simp only [gotoIn] at e
      split at e
      ·rename_i rest hf
       cases e
       intro y hy
       simp only [List.mem_cons] at hy
       rcases hy with rfl | rfl | hy
       ·exact I1 (P:=P) hx hf
       ·exact hx
       ·exact hk y hy
      ·exact Nt hk e)
theorem TameF.finish {fr : Frame} (h : TameF P fr) (x : Value) : TameF P (fr.finish x):=by
 have ht:=h.todo
 unfold Frame.finish
 split
 ·rename_i ops i rest k hk
  refine ⟨fun y hy=>?_,h.defers,h.mode,h.kind⟩
  simp only [List.mem_cons] at hy
  rcases hy with rfl | hy
  ·exact ht (.inRegion ops (i :: rest)) (by rw [hk]; simp)
  ·exact ht y (by rw [hk]; simp [hy])
 ·rename_i l k hk
  refine ⟨fun y hy=>?_,h.defers,h.mode,h.kind⟩
  simp only [List.mem_cons] at hy
  rcases hy with rfl | hy
  ·rfl
  ·exact ht y (by rw [hk]; simp [hy])
 ·rename_i k hk
  exact ⟨fun y hy=>ht y (by rw [hk]; simp [hy]),h.defers,h.mode,h.kind⟩
 ·rename_i d b r s k hk
  have:=ht (.call d b r s) (by rw [hk]; simp)
  cases this
 ·rename_i r s k hk
  have:=ht (.extern r s) (by rw [hk]; simp)
  cases this
 ·exact h
/-! the loop of a range over a function -/
theorem Abh {l : Loop} (h : Hl Z (.loop l)) : Lk P F Z (newObj (.loop l)):=⟨Gs ⟨id,h⟩ (fun r=>Ch r)⟩
theorem Kw {r : Nat} {l : Loop} (h : Hl Z (.loop l)) : Lk P F Z (setObj r (.loop l)):=⟨F3 ⟨id,h⟩ id (fun e=>by cases e) (Ch ())⟩
theorem Afa : Lk P F Z (newObj (.deferred (some []))):=⟨Gs ⟨id,.inl rfl⟩ (fun r=>Ch r)⟩
theorem Ae1 (r : Nat) : Lk P F Z (setObj r (.deferred none)):=⟨F3 ⟨id,.inr rfl⟩ id (fun e=>by cases e) (Ch ())⟩
theorem G8 {l : Nat} {f : Loop -> Sem α} (h : ∀ r,Hl Z (.loop r) -> Lk P F Z (f r)) : Lk P F Z (Instr.getLoop l >>= f):=by
 unfold Instr.getLoop
 rw [bind_assoc]
 refine Q3 (fun o _ hf=>?_) (Ir (fun _ _=>?_) ?_)
 ·cases o <;> first | exact Ap "range over a function: no such loop" | (simp only [pure_bind]; exact h _ hf)
 ·exact fun _=>trivial
 ·exact fun _=>trivial
theorem Sq (l : Nat) : Lk P F Z (Instr.beginRound l):=by
 unfold Instr.beginRound
 refine G8 (fun r hr=>Ao (Kw ⟨hr.1,hr.2.1,hr.2.2⟩) (fun _=>?_))
 split
 ·exact Aq _
 ·exact Be _
 ·exact Be _
 ·exact Be _
theorem Zk (l : Nat) (j : Option Code) (hj : ∀ c,j = some c -> Z.ok c) : Lk P F Z (Instr.endRound l j):=by
 unfold Instr.endRound
 exact G8 (fun r hr=>Ao (Kw ⟨hr.1,hr.2.1,hj⟩) (fun _=>Aq _))
theorem Abs (l : Nat) : Lk P F Z (Instr.endLoop l):=by
 unfold Instr.endLoop
 refine G8 (fun r hr=>?_)
 dsimp only
 refine Ii (Iz _ _) (Ao (Kw ⟨hr.1,hr.2.1,hr.2.2⟩) (fun _=>Aq _))
theorem Ph (b : Nat) : Lk P F Z (Instr.takeDeferred b):=by
 unfold Instr.takeDeferred
 refine Q3 (fun o _ hf=>?_) (Ir (fun _ _=>?_) ?_)
 ·cases o with
  | deferred c =>
   cases c with
   | none=>exact Ap "range over a function: the deferred calls have been taken"
   | some ds=>exact Ao (Ae1 _) (fun _=>Aq _)
  | _=>exact Ap "range over a function: the deferred calls have been taken"
 ·exact fun _=>trivial
 ·exact fun _=>trivial
theorem Wv (f : FuncId) (t : Array Value) (p : Array Tmp) (a b : Code) (o : Option Nat) (ha : Z.ok a) (hb : Z.ok b) : Lk P F Z (Instr.enterLoop f t p a b o):=by
 have fin : ∀ (d : Nat) (m : List Deferred),Lk P F Z (do pure (<- newObj (.loop { state:=.ready,pending:=none,fn:=f,tmps:=t,params:=p,assign:=a,body:=b,defers:=d }),m)) :=
  fun d m=>Ao (Abh ⟨ha,hb,fun c hc=>by cases hc⟩) (fun _=>Aq _)
 unfold Instr.enterLoop
 dsimp only
 split
 ·exact G8 (fun r _=>Ao (Aq _) (fun _=>fin _ _))
 ·exact Ao Afa (fun _=>Ao (Aq _) (fun _=>fin _ _))
theorem Abd (fn : Func) (t : Array Value) : Lk P F Z (results fn t):=by
 unfold results
 refine Ao (X9 fun x=>?_) (fun _=>Aq _)
 cases x with
 | tmp t=>exact Aq _
 | cell a t=>exact Ao (Np _) (fun _=>Kz _ _)
end
end Go.Lift
namespace Go.Lift
open Go.Conc (G mem_seen)
variable {P : Program} {F : Array Func} {Z : Veil}
def gw : GStep -> World
 | .go _ w _=>w
 | .comm _ _ _ _ w _=>w
 | .spawn _ _ w _=>w
 | .count _ w _=>w
 | .timer _ _ w _=>w
 | .alone _ _ w _=>w
 | .newcoro _ _ _ w _=>w
 | .coroswitch _ _ _ w _=>w
 | .collect _ w _=>w
 | .watch _ w _=>w
 | .ended _ w _=>w
theorem Hy (es : Array Event) (s : GStep) : gw (s.after es) = gw s:=by cases s <;> rfl
def trap (n : Nat) : Frame:={ fn:=n,tmps:=#[],todo:=[.call { target:=.nil,args:=#[] } false "fmt's door, shut" #[]],defers:=[],mode:=.run,kind:=.normal }
def Ht (Z : Veil) (v : World) : Prop:=∀ (b : Nat) (o : Obj),v.heap[b]? = some o -> Hl Z o
def Marks (fr : Frame) : Prop:=∀ d ∈ fr.defers,∃ r,d = { target:=.collected r,args:=#[] }
inductive DeadG (F : Array Func) : Goroutine -> Prop
 | raised {fr : Frame} {frs : List Frame} {chain : List PanicEntry} : fr.mode = .panicking chain -> Marks fr -> (∀ f ∈ frs,Marks f) -> DeadG F (G fr (frs ++ [trap F.size]))
 | caught {chain : List PanicEntry} : DeadG F (G { trap F.size with mode:=.panicking chain } [])
 | popped {x : Value} : DeadG F (G ((trap F.size).finish x) [])
def LostS (F : Array Func) (Z : Veil) : GStep -> Prop
 | .ended _ _ _=>True
 | .go g v _=>DeadG F g /\ Ht Z v
 | _=>False
theorem LostS.after {s : GStep} (h : LostS F Z s) (es : Array Event) : LostS F Z (s.after es):=by
 cases s <;> first | exact h | exact h.elim
def Live (P : Program) (F : Array Func) (Z : Veil) (cw : List Frame) (w v : World) (B : Nat) (y x : GStep) : Prop :=
 LostS F Z x \/ ∃ fr frs w' v' es,y = .go (G fr (frs ++ cw)) w' es /\ x.bare = .go (G fr (frs ++ [trap F.size])) v' /\ TameF P fr /\ (∀ f ∈ frs,TameF P f) /\ On Z w v w' v' /\ Cg Z B es
section
variable {cw : List Frame} {w v : World} {B : Nat} {y x : GStep}
theorem Live.after (h : Live P F Z cw w v B y x) {es es' : Array Event} (he : Cg Z B es) : Live P F Z cw w v B (y.after es) (x.after es'):=by
 rcases h with h | ⟨fr,frs,w',v',e,rfl,hx,h1,h2,h3,h4⟩
 ·exact .inl (h.after _)
 ·refine .inr ⟨fr,frs,w',v',es ++ e,rfl,?_,h1,h2,h3,fun a ha=>?_⟩
  ·cases x <;> simp_all [GStep.after,GStep.bare]
  ·rcases Array.mem_append.1 ha with h | h
   ·exact he a h
   ·exact h4 a h
theorem Live.on {w₁ v₁ : World} (o : On Z w v w₁ v₁) (h : Live P F Z cw w₁ v₁ B y x) : Live P F Z cw w v B y x:=by
 rcases h with h | ⟨fr,frs,w',v',e,hy,hx,h1,h2,h3,h4⟩
 ·exact .inl h
 ·exact .inr ⟨fr,frs,w',v',e,hy,hx,h1,h2,o.trans h3,h4⟩
theorem clean_nil : Cg Z B #[]:=fun _ h=>by simp at h
theorem Ra {es : Array Event} (h : Cg Z B es) (p : Program) (fn : FuncId) : Cg Z B (seen p fn es):=fun e he=>h e (mem_seen he)
theorem Gc {x' y' : World} (o : On Z w v x' y') {fr : Frame} {frs : List Frame} (h1 : TameF P fr) (h2 : ∀ f ∈ frs,TameF P f) :
  Live P F Z cw w v B (.go { frame:=fr,callers:=frs ++ cw,status:=.running,dying:=none } x') (.go { frame:=fr,callers:=frs ++ [trap F.size],status:=.running,dying:=none } y') :=
 .inr ⟨fr,frs,x',y',#[],rfl,rfl,h1,h2,o,clean_nil⟩
theorem Ku {fr : Frame} {frs : List Frame} (h1 : TameF P fr) (h2 : ∀ f ∈ frs,TameF P f) (hv : Ht Z v) (c : List PanicEntry) (es : Array Event) :
  LostS F Z (.go { frame:=fr.raise c,callers:=frs ++ [trap F.size],status:=.running,dying:=none } v es):=by
 refine ⟨?_,hv⟩
 have : ∃ c',(fr.raise c).mode = .panicking c':=by
  unfold Frame.raise
  split <;> exact ⟨_,rfl⟩
 obtain ⟨c',hc⟩:=this
 refine .raised (fr:=fr.raise c) hc (fun d hd=>h1.defers d ?_) (fun f hf=>(h2 f hf).defers)
 unfold Frame.raise at hd
 split at hd <;> exact hd
theorem Jg {x' y' : World} (o : On Z w v x' y') {fr : Frame} {frs : List Frame} (h1 : fr.kind = .normal) (h2 : ∀ f ∈ frs,TameF P f) (a : Value) :
  Live P F Z cw w v B (doReturn P true fr (frs ++ cw) none a x') (doReturn (strip P F) true fr (frs ++ [trap F.size]) none a y'):=by
 cases frs with
 | nil =>
  refine .inl ?_
  simp only [List.nil_append,doReturn,h1]
  exact ⟨.popped,o.rel.code⟩
 | cons c rest =>
  simp only [List.cons_append,doReturn,h1]
  exact Gc o ((h2 c (by simp)).finish a) (fun f hf=>h2 f (by simp [hf]))
end
theorem Agv {α : Type} {p : Program} {s : Sem α} {w w' : World} {a : α} (h : s.run p w = .ok a w') : Up w w':=by
 have:=Ec p s w
 rw [h] at this
 exact this
theorem Vm {α : Type} {p : Program} {s : Sem α} {w w' : World} {k : Halt} (h : s.run p w = .halt k w') : Up w w':=by
 have:=Ec p s w
 rw [h] at this
 exact this
theorem Zt (p : Program) (fr : Frame) (cs : List Frame) (d : Option Dying) (m : String) (w : World) : Up w (gw (endFatal p fr cs d m w)):=by
 unfold endFatal
 dsimp only
 split
 ·rename_i heq; exact Agv heq
 ·rename_i heq; exact Vm heq
 ·rename_i heq; exact Vm heq
theorem Ajv (p : Program) (fr : Frame) (cs : List Frame) (d : Option Dying) (g : Nat) (w : World) : Up w (gw (early p fr cs d g w)):=by
 have ny : ∀ w : World,Up w (gw (match w.heap[g]? with
  | some (.pending c elem)=>.go { frame:=fr,callers:=cs,status:=.running,dying:=d } { w with heap:=w.heap.setIfInBounds g (.cells c elem) }
  | _=>.ended (.stuck "early: the variable does not wait" (fr.pos p)) w)):=by
  intro w
  split
  ·exact ⟨Nat.le_refl _,rfl,by simp [gw]⟩
  ·exact .refl _
 unfold early
 dsimp only
 split
 ·exact ny w
 ·split
  ·exact .refl _
  ·split
   ·exact ny w
   ·split
    ·exact ny w
    ·split
     ·exact .refl _
     ·exact .refl _
     ·exact .refl _
     ·exact ny w
     ·split
      ·exact .refl _
      ·split
       ·exact ny w
       ·split
        ·rename_i heq; exact (Agv heq).trans (ny _)
        ·rename_i heq; exact Agv heq
        ·rename_i heq; exact Vm heq
theorem Yu (p : Program) (fr : Frame) (cs : List Frame) (s : Sem Next) (w : World) : Up (wOf (s.run p w)) (gw (stepG.apply p true fr cs none s w)):=by
 unfold stepG.apply
 simp only [Sem.runT_eq,if_true,Hy]
 cases s.run p w with
 | ok a w' =>
  cases a <;> dsimp only [wOf] <;> (repeat' split) <;> exact .refl _
 | halt h w' =>
  cases h with
  | unsupported u=>cases u <;> first | exact .refl _ | exact Ajv _ _ _ _ _ _
  | fatal m=>exact Zt _ _ _ _ _ _
  | _=>exact .refl _
section
variable {cw : List Frame} {w v : World} {B : Nat}
theorem K5 {s : Sem Next} (hs : Lk P F Z s) (hg : Vl (strip P F) Z s (Em P F Z)) (H : Fair P F Z) {fr : Frame} {frs : List Frame} (h1 : TameF P fr) (h2 : ∀ f ∈ frs,TameF P f) (hr : Rel Z w v)
  (ha : Agree w v (gw (stepG.apply P true fr (frs ++ cw) none s w)).drawn) (hB : (gw (stepG.apply P true fr (frs ++ cw) none s w)).heap.size <= B) :
  Live P F Z cw w v B (stepG.apply P true fr (frs ++ cw) none s w) (stepG.apply (strip P F) true fr (frs ++ [trap F.size]) none s v):=by
 have hu:=Yu P fr (frs ++ cw) s w
 have hl:=hs.ok w v #[] B hr clean_nil (ha.less hu.drawn) (Nat.le_trans hu.size hB)
 clear hu ha hB
 have hk : fr.kind = .normal:=h1.kind
 have hw : ∀ d b r k l,fr.todo ≠ .call d b r k :: l:=by
  intro d b r k l e
  have:=h1.todo (.call d b r k) (by rw [e]; simp)
  cases this
 have hg':=hg v
 unfold stepG.apply
 simp only [Sem.runT_eq,if_true,hk]
 revert hl hg'
 generalize s.run P w = r
 generalize s.run (strip P F) v = q
 intro hl hg'
 rcases hl with hbad | ⟨hal,hcl⟩
 ·refine .inl (LostS.after ?_ _)
  cases q with
  | ok a v'=>exact hbad.elim
  | halt h v' =>
   cases h <;> first
    | exact hbad.elim
    | exact True.intro
    | (rename_i u
       cases u <;> first | exact hbad.elim | exact True.intro)
 ·cases r with
  | ok a w' =>
   cases q with
   | halt h v'=>exact hal.elim
   | ok b v' =>
    obtain ⟨rfl,ho⟩:=hal
    have hn:=hg' a v' hr.code rfl
    refine Live.after ?_ (Ra ?_ _ _)
    rotate_left
    ·split
     ·exact clean_nil
     ·exact hcl
    cases a <;> first
     | exact hn.elim
     | exact Gc ho (h1.finish _) h2
     | skip
    ·rename_i f args
     obtain ⟨e1,e2⟩:=hn
     have hf : Frame.enter P f args .normal = Frame.enter (strip P F) f args .normal:=by
      unfold Frame.enter
      dsimp only
      rw [e1]
     have ht : TameF P (Frame.enter (strip P F) f args .normal):=by
      refine ⟨fun i hi=>?_,fun d hd=>by simp [Frame.enter] at hd,.inl rfl,rfl⟩
      simp only [Frame.enter,List.mem_singleton] at hi
      subst hi
      simp only [Dc]
      cases hF : F[f]? with
      | none=>rfl
      | some fn =>
       cases hb : fn.body with
       | none=>simp [hb,Br]
       | some b=>simpa [hb] using e2 fn b hF hb
     dsimp only
     split
     ·rename_i e; exact absurd e (hw _ _ _ _ _)
     rw [hf]
     exact .inr ⟨_,fr :: frs,w',v',#[],rfl,rfl,ht,fun g hg=>by
      rcases List.mem_cons.1 hg with rfl | hg
      ·exact h1
      ·exact h2 g hg,ho,clean_nil⟩
    ·rename_i l f t a b
     refine .inr ⟨Frame.round l f t a b .normal,fr :: frs,w',v',#[],rfl,rfl,⟨fun i hi=>?_,fun d hd=>by simp [Frame.round] at hd,.inl rfl,rfl⟩,fun g hg=>by
      rcases List.mem_cons.1 hg with rfl | hg
      ·exact h1
      ·exact h2 g hg,ho,clean_nil⟩
     simp only [Frame.round,List.mem_cons,List.not_mem_nil,or_false] at hi
     rcases hi with rfl | rfl | rfl
     ·exact (H.ok a).1 hn.1
     ·rfl
     ·exact (H.ok b).1 hn.2
  | halt h w' =>
   cases q with
   | ok b v'=>exact hal.elim
   | halt k v' =>
    obtain ⟨rfl,hh,ho⟩:=hal
    refine .inl (LostS.after ?_ _)
    cases h <;> first
     | exact hh.elim
     | exact Ku h1 h2 ho.rel.code _ _
     | (rename_i u
        cases u <;> first | exact hh.elim | exact True.intro)
end
end Go.Lift
