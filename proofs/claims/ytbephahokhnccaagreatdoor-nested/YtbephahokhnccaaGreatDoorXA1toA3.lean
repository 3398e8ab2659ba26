import Derived.Conc.Events
abbrev Go.ud : Go.Value:=Go.undef
namespace Go.Lift
def wOf {α : Type} : Result α -> World
 | .ok _ w=>w
 | .halt _ w=>w
structure Veil where
 dark : Nat -> Prop
 ok : Code -> Prop
instance : CoeFun Veil (fun _=>Nat -> Prop):=⟨Veil.dark⟩
def Acs : Obj -> Prop
 | .view a _=>a.spot.isSome = true
 | _=>False
def Dw : Obj -> Prop
 | .view _ _=>True
 | _=>False
def Cq : Obj -> Prop
 | .cells _ _ _=>True
 | _=>False
def Hl (Z : Veil) : Obj -> Prop
 | .loop l=>Z.ok l.assign /\ Z.ok l.body /\ ∀ c,l.pending = some c -> Z.ok c
 | .deferred x=>x = some [] \/ x = none
 | .pending _ _=>False
 | _=>True
def Oh (Z : Veil) (o : Obj) : Prop:=¬ Dw o /\ Hl Z o
inductive Z8 (z : Prop) : Option Obj -> Option Obj -> Prop
 /-- dark cells -/
 | dark {c : Array Value} {e : TypeId} : z -> Z8 z (some (.cells c e)) (some (.cells #[] e))
 /-- another dark object -/
 | shut {o : Obj} : z -> ¬ Cq o -> ¬ Dw o -> (∀ a l,o ≠ .number a l) -> Z8 z (some o) (some (.coro none))
 | view {o o' : Obj} : Dw o -> Acs o' -> Z8 z (some o) (some o')
 | same {x : Option Obj} : (∀ o,x = some o -> ¬ Dw o /\ (z -> ¬ Cq o)) -> Z8 z x x
structure Rel (Z : Veil) (w v : World) : Prop where
 size : v.heap.size = w.heap.size
 low : ∀ b,Z b -> b < w.heap.size
 look : ∀ b,Z8 (Z b) (w.heap[b]?) (v.heap[b]?)
 code : ∀ (b : Nat) (o : Obj),v.heap[b]? = some o -> Hl Z o
 os : v.os = w.os
 out : v.output = w.output
def Agree (w v : World) (d : Nat) : Prop:=∀ j,w.drawn + j < d -> v.tape (v.drawn + j) = w.tape (w.drawn + j)
def Off (o : Obj) : Prop:=Dw o \/ o = .coro none
def Offs (w v w' v' : World) : Prop:=∀ (b : Nat) (o : Obj),v'.heap[b]? = some o -> Off o -> b < w.heap.size -> (∃ o₀,v.heap[b]? = some o₀ /\ Off o₀) /\ w'.heap[b]? = w.heap[b]?
structure On (Z : Veil) (w v w' v' : World) : Prop where
 rel : Rel Z w' v'
 tw : w'.tape = w.tape
 tv : v'.tape = v.tape
 up : w.drawn <= w'.drawn
 grow : w.heap.size <= w'.heap.size
 step : v'.drawn = v.drawn + (w'.drawn - w.drawn)
 off : Offs w v w' v'
def Vk : Halt -> Prop
 | .panic _=>True
 | .unsupported (.initOrder _)=>False
 | .unsupported _=>True
 | _=>False
def Alike {α : Type} (Z : Veil) (w v : World) : Result α -> Result α -> Prop
 | .ok a w',.ok b v'=>a = b /\ On Z w v w' v'
 | .halt h w',.halt k v'=>h = k /\ Vk h /\ On Z w v w' v'
 | _,_=>False
def Anb : Halt -> Prop
 | .stuck _=>True
 | .unsupported (.extern _)=>True
 | .unsupported (.unsafePointer _)=>True
 | _=>False
def Bad {α : Type} : Result α -> Prop
 | .halt h _=>Anb h
 | _=>False
def Clean (Z : Veil) (B : Nat) (e : Event) : Prop :=
 match e.loc with
 | .cell a=>¬ Z a.block /\ a.block < B
 | .obj r=>r < B
 | .mark m=>(∃ f,m = .extern f) \/ m = .noRoom
 | _=>False
def Cg (Z : Veil) (B : Nat) (es : Array Event) : Prop:=∀ e ∈ es,Clean Z B e
def Lock {α : Type} (P Q : Program) (Z : Veil) (s : Sem α) : Prop :=
 ∀ w v es B,Rel Z w v -> Cg Z B es -> Agree w v (wOf (s.run P w)).drawn -> (wOf (s.run P w)).heap.size <= B ->
  Bad (s.run Q v) \/ (Alike Z w v (s.run P w) (s.run Q v) /\ Cg Z B (s.events P w es))
theorem Rel.frozen {Z : Veil} {w v : World} (h : Rel Z w v) (a : Addr) : v.frozen? a = w.frozen? a:=by
 have:=h.look a.block
 unfold World.frozen?
 revert this
 generalize w.heap[a.block]? = x
 generalize v.heap[a.block]? = y
 intro l
 cases l with
 | dark _=>simp
 | @shut o _ h1 _ _=>cases o <;> first | exact absurd trivial h1 | rfl
 | @view o o' h1 h2=>cases o <;> first | exact h1.elim | (cases o' <;> first | exact h2.elim | rfl)
 | same _=>rfl
/-! sizes and draws -/
theorem O8 {P : Program} {w w' : World} {a : Addr} {u : TypeId} {k : Addr} {x : Value} {m : Bool} {l : List Addr} (h : w.viewStore P a u k x m = .ok (w',l)) :
  w'.drawn = w.drawn /\ w'.tape = w.tape /\ w'.heap.size = w.heap.size:=by
 unfold World.viewStore at h
 simp only [bind,Except.bind,pure,Except.pure] at h
 split at h
 ·cases h
 ·split at h
  ·cases h
  ·split at h
   ·split at h
    ·cases h
    ·split at h
     ·cases h
     ·cases h
      exact ⟨rfl,rfl,by simp⟩
   ·cases h
theorem Rz {P : Program} {w w' : World} {a : Addr} {x : Value} {m : Bool} {l : List Addr} (h : w.farStore P a x m = .ok (w',l)) :
  w'.drawn = w.drawn /\ w'.tape = w.tape /\ w'.heap.size = w.heap.size:=by
 unfold World.farStore at h
 split at h
 ·rename_i at_ u ho
  cases hv : w.viewStore P at_ u a x m with
  | error e=>rw [hv] at h; cases h
  | ok r=>rw [hv] at h; cases h; exact O8 hv
 ·cases h
end Go.Lift
namespace Go.Lift
section
variable {α : Type}
def one : Value -> Bool
 | .agg _ | .tuple _=>false
 | _=>true
structure Up (w w' : World) : Prop where
 drawn : w.drawn <= w'.drawn
 tape : w'.tape = w.tape
 size : w.heap.size <= w'.heap.size
theorem Up.refl (w : World) : Up w w:=⟨Nat.le_refl _,rfl,Nat.le_refl _⟩
theorem Up.trans {a b c : World} (h : Up a b) (k : Up b c) : Up a c:=⟨Nat.le_trans h.drawn k.drawn,k.tape.trans h.tape,Nat.le_trans h.size k.size⟩
theorem Apv (x : Ask α) : ∀ w : World,Up w (w.ask x).2 /\ (w.ask x).2.heap = w.heap:=by
 induction x with
 | done a=>intro w; exact ⟨.refl w,rfl⟩
 | ask what range k ih =>
  intro w
  simp only [World.ask]
  split
  ·exact ih _ w
  ·have:=ih ((Question.extern what range).cut (w.tape w.drawn (Question.extern what range))) { w with drawn:=w.drawn + 1 }
   exact ⟨⟨Nat.le_trans (Nat.le_succ _) this.1.drawn,this.1.tape,this.1.size⟩,this.2⟩
theorem Anl (w : World) (c : Sys) : Up w (w.sys c).2:=by
 have h:=(Apv (Kernel.perform c w.os) w).1
 unfold World.sys
 revert h
 generalize w.ask (Kernel.perform c w.os) = x
 obtain ⟨⟨r,os⟩,w'⟩:=x
 intro h
 cases r <;> first | exact .refl w | exact ⟨h.drawn,h.tape,h.size⟩
theorem Aav {P : Program} {m : Mode} {a : Addr} {x : Value} {k : Sem α} {w : World} : (∃ s,(Sem.store m a x k).run P w = .halt s w) \/ (one x = true /\ (∃ y,w.cell? a = some y) /\ w.frozen? a = false /\ (Sem.store m a x k).run P w = k.run P (w.setCell a x)) \/
  ∃ w' l,w.farStore P a x (m == .atomic) = .ok (w',l) /\ (Sem.store m a x k).run P w = k.run P w':=by
 cases x <;> first
  | exact .inl ⟨_,rfl⟩
  | (simp only [Sem.run]
     cases hc : w.cell? a with
     | some y =>
      cases hf : w.frozen? a with
      | true=>exact .inl ⟨_,rfl⟩
      | false=>exact .inr (.inl ⟨rfl,⟨_,rfl⟩,rfl,by simp⟩)
     | none =>
      simp only []
      cases hs : w.farStore P a _ (m == .atomic) with
      | error e=>exact .inl ⟨e,by simp⟩
      | ok r=>exact .inr (.inr ⟨r.1,r.2,rfl,by simp⟩))
theorem Ec (P : Program) (s : Sem α) : ∀ w : World,Up w (wOf (s.run P w)):=by
 induction s with
 | pure a=>intro w; exact .refl w
 | load m a k ih =>
  intro w
  simp only [Sem.run]
  split
  ·exact ih _ w
  ·split
   ·exact ih _ w
   ·exact .refl w
 | store m a x k ih =>
  intro w
  rcases Aav (P:=P) (m:=m) (a:=a) (x:=x) (k:=k) (w:=w) with ⟨s,h⟩ | ⟨_,_,_,h⟩ | ⟨w',l,h1,h⟩
  ·rw [h]; exact .refl w
  ·rw [h]; exact Up.trans (b:=w.setCell a x) ⟨Nat.le_refl _,rfl,by simp [World.setCell]⟩ (ih _)
  ·rw [h]
   obtain ⟨e1,e2,e3⟩:=Rz h1
   exact Up.trans ⟨Nat.le_of_eq e1.symm,e2,Nat.le_of_eq e3.symm⟩ (ih w')
 | new o k ih=>intro w; exact Up.trans (b:={ w with heap:=w.heap.push o }) ⟨Nat.le_refl _,rfl,by simp⟩ (ih _ _)
 | shape r k ih=>intro w; exact ih _ w
 | freeze a n k ih =>
  intro w
  refine Up.trans (b:=w.freeze a n) ?_ (ih _)
  unfold World.freeze
  split
  ·exact .refl w
  ·exact ⟨Nat.le_refl _,rfl,by simp⟩
 | frozen a k ih=>intro w; exact ih _ w
 | getObj r k ih =>
  intro w
  simp only [Sem.run]
  split
  ·exact .refl w
  ·exact ih _ w
  ·exact .refl w
 | setObj r o k ih =>
  intro w
  simp only [Sem.run]
  split
  ·exact .refl w
  ·exact Up.trans (b:={ w with heap:=w.heap.setIfInBounds r o }) ⟨Nat.le_refl _,rfl,by simp⟩ (ih _)
  ·exact .refl w
 | choose q k ih =>
  intro w
  simp only [Sem.run]
  split
  ·exact ih _ w
  ·exact Up.trans (b:={ w with drawn:=w.drawn + 1 }) ⟨Nat.le_succ _,rfl,Nat.le_refl _⟩ (ih _ _)
 | sys c k ih=>intro w; exact Up.trans (Anl w c) (ih _ _)
 | program k ih=>intro w; exact ih _ w
 | mark m k ih=>intro w; exact ih w
 | halt h=>intro w; exact .refl w
def Hm (Q : Program) (s : Sem α) : Prop:=∀ v,Bad (s.run Q v)
end
section
variable {α β : Type} {P Q : Program} {Z : Veil} {w v : World} {B : Nat}
theorem Offs.refl (w v : World) : Offs w v w v:=fun _ o h1 h2 _=>⟨⟨o,h1,h2⟩,rfl⟩
theorem On.refl (h : Rel Z w v) : On Z w v w v:=⟨h,rfl,rfl,Nat.le_refl _,Nat.le_refl _,by omega,Offs.refl w v⟩
theorem On.trans {w₁ v₁ w₂ v₂ : World} (h : On Z w v w₁ v₁) (k : On Z w₁ v₁ w₂ v₂) : On Z w v w₂ v₂ :=
 ⟨k.rel,k.tw.trans h.tw,k.tv.trans h.tv,Nat.le_trans h.up k.up,Nat.le_trans h.grow k.grow,by have:=h.up; have:=k.up; have:=h.step; have:=k.step; omega,fun b o h1 h2 h3=>let ⟨⟨o₁,x1,x2⟩,x3⟩:=k.off b o h1 h2 (Nat.lt_of_lt_of_le h3 h.grow); let ⟨y1,y2⟩:=h.off b o₁ x1 x2 h3; ⟨y1,x3.trans y2⟩⟩
theorem Alike.on {w₁ v₁ : World} {r r' : Result α} (h : On Z w v w₁ v₁) (k : Alike Z w₁ v₁ r r') : Alike Z w v r r':=by
 cases r <;> cases r' <;> first | exact k.elim | exact ⟨k.1,h.trans k.2⟩ | exact ⟨k.1,k.2.1,h.trans k.2.2⟩
theorem Agree.on {w₁ v₁ : World} {d : Nat} (h : On Z w v w₁ v₁) (k : Agree w v d) : Agree w₁ v₁ d:=by
 intro j hj
 have e1:=h.up
 have e2:=h.step
 have:=k ((w₁.drawn - w.drawn) + j) (by omega)
 rw [h.tv,h.tw,e2,Nat.add_assoc,this]
 congr 1
 omega
theorem Agree.less {d d' : Nat} (k : Agree w v d) (h : d' <= d) : Agree w v d':=fun j hj=>k j (Nat.lt_of_lt_of_le hj h)
theorem Cu {es : Array Event} {e : Event} (h : Cg Z B es) (he : Clean Z B e) : Cg Z B (es.push e):=by
 intro x hx
 rcases Array.mem_push.1 hx with hx | rfl
 ·exact h x hx
 ·exact he
/-! the turns of the world -/
theorem Gu {r b : Nat} {f : Obj -> Obj} : (w.heap.modify r f)[b]? = if r = b then (w.heap[b]?).map f else w.heap[b]?:=by
 rw [Array.getElem?_modify]
theorem Rel.push (h : Rel Z w v) {o : Obj} (ho : Oh Z o) : Rel Z { w with heap:=w.heap.push o } { v with heap:=v.heap.push o }:=by
 have hz : ¬ Z w.heap.size:=fun z=>Nat.lt_irrefl _ (h.low _ z)
 refine ⟨by simp [h.size],fun b hb=>by have:=h.low b hb; simp; omega,fun b=>?_,fun b x hx=>?_,h.os,h.out⟩
 ·simp only [Array.getElem?_push,h.size]
  by_cases e : b = w.heap.size
  ·simp only [e,if_true]
   exact .same fun x hx=>by cases hx; exact ⟨ho.1,fun z=>absurd z hz⟩
  ·simp only [if_neg e]; exact h.look b
 ·simp only [Array.getElem?_push] at hx
  split at hx
  ·cases hx; exact ho.2
  ·exact h.code b x hx
theorem Rel.setObj (h : Rel Z w v) {o : Obj} (ho : Oh Z o) (hc : ¬ Cq o) {r : Nat} : Rel Z { w with heap:=w.heap.setIfInBounds r o } { v with heap:=v.heap.setIfInBounds r o }:=by
 refine ⟨by simp [h.size],fun b hb=>by simpa using h.low b hb,fun b=>?_,fun b x hx=>?_,h.os,h.out⟩
 ·simp only [Array.getElem?_setIfInBounds,h.size]
  by_cases e : r = b
  ·simp only [e,if_true]
   split
   ·exact .same fun x hx=>by cases hx; exact ⟨ho.1,fun _=>hc⟩
   ·exact .same fun x hx=>by cases hx
  ·simp only [if_neg e]; exact h.look b
 ·simp only [Array.getElem?_setIfInBounds] at hx
  split at hx
  ·split at hx
   ·cases hx; exact ho.2
   ·cases hx
  ·exact h.code b x hx
theorem Rel.modify (h : Rel Z w v) {r : Nat} (hr : ¬ Z r) {f : Obj -> Obj} (hf : ∀ o,¬ Cq o -> f o = o) (hg : ∀ o,Cq o -> Cq (f o)) : Rel Z { w with heap:=w.heap.modify r f } { v with heap:=v.heap.modify r f }:=by
 refine ⟨by simp [h.size],fun b hb=>by simpa using h.low b hb,fun b=>?_,fun b x hx=>?_,h.os,h.out⟩
 rotate_left
 ·simp only [Gu] at hx
  split at hx
  ·cases hv : v.heap[b]? with
   | none=>rw [hv] at hx; cases hx
   | some o =>
    rw [hv] at hx
    simp only [Option.map_some,Option.some.injEq] at hx
    subst hx
    by_cases hc : Cq o
    ·have:=hg o hc
     generalize f o = q at this
     cases q <;> first | exact this.elim | exact trivial
    ·rw [hf o hc]; exact h.code b o hv
  ·exact h.code b x hx
 simp only [Gu]
 by_cases e : r = b
 ·subst e
  simp only [if_true]
  have:=h.look r
  revert this
  generalize w.heap[r]? = x
  generalize v.heap[r]? = y
  intro l
  cases l with
  | dark z=>exact absurd z hr
  | shut z=>exact absurd z hr
  | @view o o' h1 h2 =>
   have e1 : f o = o:=hf o (by cases o <;> first | exact id | exact h1.elim)
   have e2 : f o' = o':=hf o' (by cases o' <;> first | exact id | exact h2.elim)
   simp only [Option.map_some,e1,e2]
   exact .view h1 h2
  | same h1 =>
   refine .same fun o ho=>?_
   cases x with
   | none=>cases ho
   | some o' =>
    simp only [Option.map_some,Option.some.injEq] at ho
    subst ho
    refine ⟨?_,fun z=>absurd z hr⟩
    by_cases hc : Cq o'
    ·have:=hg o' hc
     generalize f o' = q at this
     cases q <;> first | exact this.elim | exact id
    ·rw [hf o' hc]; exact (h1 o' rfl).1
 ·simp only [if_neg e]; exact h.look b
theorem Rel.setCell (h : Rel Z w v) {a : Addr} {x : Value} (ha : ¬ Z a.block) : Rel Z (w.setCell a x) (v.setCell a x) :=
 h.modify ha (fun o ho=>by cases o <;> first | rfl | exact absurd trivial ho) (fun o ho=>by cases o <;> first | exact trivial | exact ho.elim)
theorem Off.not_cells {o : Obj} (h : Off o) : ¬ Cq o:=by
 rcases h with h | rfl
 ·cases o <;> first | exact id | exact h.elim
 ·exact id
theorem Rel.off_w (h : Rel Z w v) {b : Nat} {o : Obj} (hv : v.heap[b]? = some o) (ho : Off o) : ∃ o',w.heap[b]? = some o' /\ ¬ Cq o':=by
 have hl:=h.look b
 rw [hv] at hl
 generalize w.heap[b]? = x at hl
 cases hl with
 | dark=>exact absurd trivial ho.not_cells
 | shut _ h1=>exact ⟨_,rfl,h1⟩
 | @view o₁ _ h1 _=>exact ⟨_,rfl,fun hc=>by cases o₁ <;> first | exact hc.elim | exact h1.elim⟩
 | same=>exact ⟨_,rfl,ho.not_cells⟩
theorem Offs.modify (h : Rel Z w v) {r : Nat} {f : Obj -> Obj} (hf : ∀ o,¬ Cq o -> f o = o) (hg : ∀ o,Cq o -> Cq (f o)) : Offs w v { w with heap:=w.heap.modify r f } { v with heap:=v.heap.modify r f }:=fun b o h1 h2 _=>by
 have key : ∀ (u : World) (o' : Obj),u.heap[b]? = some o' -> ¬ Cq o' -> (u.heap.modify r f)[b]? = some o':=fun u o' e hc=>by
  rw [Gu,e]
  split
  ·rw [Option.map_some,hf o' hc]
  ·rfl
 replace h1 : (v.heap.modify r f)[b]? = some o:=h1
 cases hv : v.heap[b]? with
 | none =>
  rw [Gu,hv] at h1
  split at h1 <;> cases h1
 | some o₀ =>
  have hn : ¬ Cq o₀:=fun hc=>by
   rw [Gu,hv] at h1
   split at h1
   ·cases h1
    exact h2.not_cells (hg _ hc)
   ·cases h1
    exact h2.not_cells hc
  have e:=key v o₀ hv hn
  rw [h1] at e
  cases e
  obtain ⟨o',e1,e2⟩:=h.off_w hv h2
  exact ⟨⟨_,rfl,h2⟩,(key w o' e1 e2).trans e1.symm⟩
theorem Offs.setCell (h : Rel Z w v) (a : Addr) (x : Value) : Offs w v (w.setCell a x) (v.setCell a x) :=
 Offs.modify h (fun o ho=>by cases o <;> first | rfl | exact absurd trivial ho) (fun o ho=>by cases o <;> first | exact trivial | exact ho.elim)
theorem On.setCell (h : Rel Z w v) {a : Addr} {x : Value} (ha : ¬ Z a.block) : On Z w v (w.setCell a x) (v.setCell a x) :=
 ⟨h.setCell ha,rfl,rfl,Nat.le_refl _,by simp [World.setCell],by show v.drawn = v.drawn + (w.drawn - w.drawn); omega,.setCell h a x⟩
theorem On.push (h : Rel Z w v) {o : Obj} (ho : Oh Z o) : On Z w v { w with heap:=w.heap.push o } { v with heap:=v.heap.push o } :=
 ⟨h.push ho,rfl,rfl,Nat.le_refl _,by simp,by show v.drawn = v.drawn + (w.drawn - w.drawn); omega,fun b o' h1 h2 h3=>by
  simp only [Array.getElem?_push] at h1 ⊢
  rw [if_neg (by rw [h.size]; omega)] at h1
  rw [if_neg (by omega)]
  exact ⟨⟨_,h1,h2⟩,rfl⟩⟩
theorem On.setObj (h : Rel Z w v) {o : Obj} (ho : Oh Z o) (hc : ¬ Cq o) (hk : o ≠ .coro none) {r : Nat} : On Z w v { w with heap:=w.heap.setIfInBounds r o } { v with heap:=v.heap.setIfInBounds r o } :=
 ⟨h.setObj ho hc,rfl,rfl,Nat.le_refl _,by simp,by show v.drawn = v.drawn + (w.drawn - w.drawn); omega,fun b o' h1 h2 h3=>by
  simp only [Array.getElem?_setIfInBounds] at h1 ⊢
  by_cases e : r = b
  ·rw [if_pos e,if_pos (by rw [e,h.size]; exact h3)] at h1
   cases h1
   rcases h2 with h2 | h2
   ·exact absurd h2 ho.1
   ·exact absurd h2 hk
  ·rw [if_neg e] at h1
   rw [if_neg e]
   exact ⟨⟨_,h1,h2⟩,rfl⟩⟩
theorem On.draw (h : Rel Z w v) : On Z w v { w with drawn:=w.drawn + 1 } { v with drawn:=v.drawn + 1 } :=
 ⟨⟨h.size,h.low,h.look,h.code,h.os,h.out⟩,rfl,rfl,Nat.le_succ _,Nat.le_refl _,by show v.drawn + 1 = v.drawn + (w.drawn + 1 - w.drawn); omega,fun _ o h1 h2 _=>⟨⟨o,h1,h2⟩,rfl⟩⟩
theorem Adu {a : Addr} {x : Value} (h : w.cell? a = some x) : a.block < w.heap.size:=by
 unfold World.cell? at h
 cases ho : w.heap[a.block]? with
 | none=>rw [ho] at h; cases h
 | some o=>exact (Array.getElem?_eq_some_iff.1 ho).1
theorem Rel.ways (h : Rel Z w v) (b : Nat) : (∃ e,v.heap[b]? = some (.cells #[] e)) /\ Z b \/ (v.heap[b]? = some (.coro none)) \/ (∃ o',v.heap[b]? = some o' /\ Acs o') \/ (v.heap[b]? = w.heap[b]? /\ (∀ o,w.heap[b]? = some o -> ¬ Dw o) /\ (∀ o,w.heap[b]? = some o -> Cq o -> ¬ Z b)):=by
 have:=h.look b
 revert this
 generalize w.heap[b]? = x
 generalize v.heap[b]? = y
 intro l
 cases l with
 | dark z=>exact .inl ⟨⟨_,rfl⟩,z⟩
 | shut=>exact .inr (.inl rfl)
 | view h1 h2=>exact .inr (.inr (.inl ⟨_,rfl,h2⟩))
 | same h1=>exact .inr (.inr (.inr ⟨rfl,fun o ho=>(h1 o ho).1,fun o ho hc z=>(h1 o ho).2 z hc⟩))
theorem K4 {a : Addr} {x : Value} (h : w.cell? a = some x) : ∃ o,w.heap[a.block]? = some o /\ Cq o:=by
 unfold World.cell? at h
 cases ho : w.heap[a.block]? with
 | none=>rw [ho] at h; cases h
 | some o=>cases o <;> first | exact ⟨_,rfl,trivial⟩ | (rw [ho] at h; cases h)
theorem Rb {a : Addr} {u : TypeId} {k : Addr} {m : Bool} (ha : a.spot.isSome = true) : ∃ s,v.seen Q a u k m = .error s:=by
 unfold World.seen
 simp only [ha,Bool.or_true,if_true,bind,Except.bind]
 exact ⟨_,rfl⟩
theorem Rc {a : Addr} {m : Bool} {o : Obj} (h : v.heap[a.block]? = some o) (ho : Acs o) : v.cell? a = none /\ ∃ s,v.farLoad Q a m = .error (.unsupported (.unsafePointer s)):=by
 cases o <;> first | exact ho.elim | skip
 rename_i x u
 refine ⟨by simp [World.cell?,h],?_⟩
 obtain ⟨s,hs⟩:=Rb (v:=v) (Q:=Q) (u:=u) (k:=a) (m:=m) ho
 refine ⟨s,?_⟩
 simp only [World.farLoad,h,World.viewLoad,hs,bind,Except.bind]
theorem Zw {a : Addr} {x : Value} {m : Bool} {o : Obj} (h : v.heap[a.block]? = some o) (ho : Acs o) : v.cell? a = none /\ ∃ s,v.farStore Q a x m = .error (.unsupported (.unsafePointer s)):=by
 cases o <;> first | exact ho.elim | skip
 rename_i y u
 refine ⟨by simp [World.cell?,h],?_⟩
 obtain ⟨s,hs⟩:=Rb (v:=v) (Q:=Q) (u:=u) (k:=a) (m:=m) ho
 simp only [World.farStore,h,World.viewStore,hs,bind,Except.bind]
 split
 ·rename_i heq; split at heq <;> cases heq
 ·rename_i e heq; exact ⟨_,rfl⟩
theorem Js {a : Addr} (h : ∀ o,w.heap[a.block]? = some o -> ¬ Dw o) (m : Bool) : w.farLoad P a m = .error (w.noCell a "load: no such cell"):=by
 unfold World.farLoad
 cases ho : w.heap[a.block]? with
 | none=>rfl
 | some o=>cases o <;> first | rfl | exact absurd trivial (h _ ho)
theorem Qt {a : Addr} {x : Value} (h : ∀ o,w.heap[a.block]? = some o -> ¬ Dw o) (m : Bool) : w.farStore P a x m = .error (w.noCell a "store: no such cell"):=by
 unfold World.farStore
 cases ho : w.heap[a.block]? with
 | none=>rfl
 | some o=>cases o <;> first | rfl | exact absurd trivial (h _ ho)
theorem Nw {a : Addr} (h : v.heap[a.block]? = w.heap[a.block]?) : v.cell? a = w.cell? a:=by simp [World.cell?,h]
theorem G6 {a : Addr} (h : v.heap[a.block]? = w.heap[a.block]?) (s : String) : v.noCell a s = w.noCell a s:=by simp [World.noCell,h]
theorem Lr {a : Addr} {e : TypeId} (h : v.heap[a.block]? = some (.cells #[] e)) (m : Bool) : v.cell? a = none /\ v.farLoad Q a m = .error (.stuck "load: no such cell") /\ ∀ x,v.farStore Q a x m = .error (.stuck "store: no such cell"):=by
 refine ⟨by simp [World.cell?,h],by simp [World.farLoad,World.noCell,h],fun x=>by simp [World.farStore,World.noCell,h]⟩
theorem P9 {a : Addr} (h : v.heap[a.block]? = some (.coro none)) (m : Bool) : v.cell? a = none /\ v.farLoad Q a m = .error (.stuck "load: no such cell") /\ ∀ x,v.farStore Q a x m = .error (.stuck "store: no such cell"):=by
 refine ⟨by simp [World.cell?,h],by simp [World.farLoad,World.noCell,h],fun x=>by simp [World.farStore,World.noCell,h]⟩
theorem Iy {a : Addr} (h : ∀ o,v.heap[a.block]? = some o -> ¬ Dw o /\ Hl Z o) (s : String) : v.noCell a s = .stuck s:=by
 unfold World.noCell
 cases ho : v.heap[a.block]? with
 | none=>rfl
 | some o =>
  obtain ⟨h1,h2⟩:=h o ho
  cases o <;> first | rfl | exact absurd trivial h1 | exact h2.elim
theorem Dx {m : Mode} {a : Addr} {x : Value} {k : Sem α} (hx : one x = true) : (Sem.store m a x k).run P w =
  match w.cell? a with
  | some _=>if w.frozen? a then .halt (.unsupported (.unsafePointer "a write to bytes that a string shares")) w else k.run P (w.setCell a x)
  | none=>match w.farStore P a x (m == .atomic) with
   | .ok (w,_)=>k.run P w
   | .error h=>.halt h w:=by
 cases x <;> first | (simp [one] at hx; done) | rfl
theorem Sy {m : Mode} {a : Addr} {x : Value} {k : Sem α} {es : Array Event} (hx : one x = true) : (Sem.store m a x k).events P w es =
  match w.cell? a with
  | some _=>if w.frozen? a then es else k.events P (w.setCell a x) (es.push ⟨.cell a,true,m == .atomic⟩)
  | none=>match w.farStore P a x (m == .atomic) with
   | .ok (w,touched)=>k.events P w (es ++ touched.toArray.map (⟨.cell ·,true,m == .atomic⟩))
   | .error _=>es:=by
 cases x <;> first
  | (simp [one] at hx; done)
  | (simp only [Sem.events,Sem.runT]
     cases hc : w.cell? a with
     | some y=>simp only []; split <;> rfl
     | none=>simp only []; split <;> rename_i heq <;> simp [heq])
theorem Im {m : Mode} {a : Addr} {x : Value} {k : Sem α} (hx : one x = false) : (Sem.store m a x k).run P w = .halt (.stuck "store: not the value of one cell") w:=by
 cases x <;> first | (simp [one] at hx; done) | rfl
theorem Ch (a : α)  : Lock P Q Z (.pure a : Sem α):=by
 intro w v es B hr hc _ _; exact .inr ⟨⟨rfl,.refl hr⟩,hc⟩
theorem Tz {m : Mode} {a : Addr} {k : Value -> Sem α} (ih : ∀ v,Lock P Q Z (k v)) : Lock P Q Z (.load m a k):=by
 intro w v es B hr hc ha hB
 rcases hr.ways a.block with ⟨⟨e,h1⟩,_⟩ | h1 | ⟨o',h1,h2⟩ | ⟨h1,h2,h3⟩
 ·obtain ⟨e1,e2,_⟩:=Lr (Q:=Q) h1 (m == .atomic)
  left; simp only [Sem.run,e1,e2]; trivial
 ·obtain ⟨e1,e2,_⟩:=P9 (Q:=Q) h1 (m == .atomic)
  left; simp only [Sem.run,e1,e2]; trivial
 ·obtain ⟨e1,s,e2⟩:=Rc (Q:=Q) (m:=m == .atomic) h1 h2
  left; simp only [Sem.run,e1,e2]; trivial
 ·simp only [Sem.run,Js (P:=P) h2] at ha hB
  simp only [Sem.run,Sem.events,Sem.runT,Js (P:=P) h2,Nw h1,Js (w:=v) (P:=Q) (h1 ▸ h2),G6 h1]
  cases hv : w.cell? a with
  | none =>
   left
   simp only [<- G6 h1,Iy (Z:=Z) (fun o ho=>⟨h2 o (h1 ▸ ho),hr.code _ o ho⟩)]
   trivial
  | some x =>
   rw [hv] at ha hB
   have hz : ¬ Z a.block:=let ⟨o,x1,x2⟩:=K4 hv; h3 o x1 x2
   exact ih x w v _ B hr (Cu hc (show Clean Z B ⟨.cell a,_,_⟩ from ⟨hz,Nat.lt_of_lt_of_le (Adu hv) (Nat.le_trans (Ec P (k x) w).size hB)⟩)) ha hB
theorem Aa7 {m : Mode} {a : Addr} {x : Value} {k : Sem α} (ih : Lock P Q Z k) : Lock P Q Z (.store m a x k):=by
 intro w v es B hr hc ha hB
 cases hx : one x with
 | false=>left; rw [Im hx]; trivial
 | true =>
  rcases hr.ways a.block with ⟨⟨e,h1⟩,_⟩ | h1 | ⟨o',h1,h2⟩ | ⟨h1,h2,h3⟩
  ·obtain ⟨e1,_,e2⟩:=Lr (Q:=Q) h1 (m == .atomic)
   left; rw [Dx hx,e1]; simp only [e2]; trivial
  ·obtain ⟨e1,_,e2⟩:=P9 (Q:=Q) h1 (m == .atomic)
   left; rw [Dx hx,e1]; simp only [e2]; trivial
  ·obtain ⟨e1,s,e2⟩:=Zw (Q:=Q) (x:=x) (m:=m == .atomic) h1 h2
   left; rw [Dx hx,e1]; simp only [e2]; trivial
  ·rw [Dx hx] at ha hB
   rw [Dx hx,Dx hx,Sy hx,Nw h1,hr.frozen a]
   simp only [Qt (P:=P) h2,Qt (w:=v) (P:=Q) (h1 ▸ h2),G6 h1] at ha hB ⊢
   cases hv : w.cell? a with
   | none =>
    left
    simp only [<- G6 h1,Iy (Z:=Z) (fun o ho=>⟨h2 o (h1 ▸ ho),hr.code _ o ho⟩)]
    trivial
   | some y =>
    rw [hv] at ha hB
    cases hf : w.frozen? a with
    | true=>exact .inl trivial
    | false =>
     simp only [hf,Bool.false_eq_true,if_false] at ha hB ⊢
     have hz : ¬ Z a.block:=let ⟨o,x1,x2⟩:=K4 hv; h3 o x1 x2
     have hon : On Z w v (w.setCell a x) (v.setCell a x):=.setCell hr hz
     exact (ih _ _ _ B hon.rel (Cu hc (show Clean Z B ⟨.cell a,_,_⟩ from ⟨hz,Nat.lt_of_lt_of_le (Adu hv) (Nat.le_trans hon.grow (Nat.le_trans (Ec P k _).size hB))⟩)) (ha.on hon) hB).imp id (fun t=>⟨t.1.on hon,t.2⟩)
theorem Gs {o : Obj} {k : Nat -> Sem α} (ho : Oh Z o) (ih : ∀ r,Lock P Q Z (k r)) : Lock P Q Z (.new o k):=by
 intro w v es B hr hc ha hB
 have hon:=On.push hr ho
 simp only [Sem.run,hr.size]
 exact (ih w.heap.size _ _ es B hon.rel hc (Agree.on hon ha) hB).imp id (fun t=>⟨t.1.on hon,t.2⟩)
theorem Y4 {a : Addr} {k : Bool -> Sem α} (ih : ∀ b,Lock P Q Z (k b)) : Lock P Q Z (.frozen a k):=by
 intro w v es B hr hc ha hB
 simp only [Sem.run,hr.frozen a]
 exact ih _ w v es B hr hc ha hB
theorem Ot {r : Nat} {k : Obj -> Sem α} (ih : ∀ o,¬ Dw o -> Hl Z o -> Lock P Q Z (k o)) (hd : ∀ o,Off o -> Hm Q (k o)) : Lock P Q Z (.getObj r k):=by
 intro w v es B hr hc ha hB
 rcases hr.ways r with ⟨⟨e,h1⟩,_⟩ | h1 | ⟨o',h1,h2⟩ | ⟨h1,h2,_⟩
 ·left; simp only [Sem.run,h1]; trivial
 ·left
  simp only [Sem.run,h1]
  exact hd _ (.inr rfl) v
 ·left
  cases o' <;> first | exact h2.elim | skip
  simp only [Sem.run,h1]
  exact hd _ (.inl (show Dw (.view _ _) from trivial)) v
 ·cases hw : w.heap[r]? with
  | none=>left; simp only [Sem.run,h1,hw]; trivial
  | some o =>
   have hno:=h2 o hw
   cases o <;> first
    | (left; simp only [Sem.run,h1,hw]; trivial)
    | exact absurd trivial hno
    | (simp only [Sem.run,hw] at ha hB
       simp only [Sem.run,h1,hw,Sem.events,Sem.runT]
       exact ih _ hno (hr.code r _ (h1.trans hw)) w v _ B hr (Cu hc (show Clean Z B ⟨.obj r,_,_⟩ from Nat.lt_of_lt_of_le (Array.getElem?_eq_some_iff.1 hw).1 (Nat.le_trans (Ec P _ w).size hB))) ha hB)
theorem F3 {r : Nat} {o : Obj} {k : Sem α} (ho : Oh Z o) (hn : ¬ Cq o) (hk : o ≠ .coro none) (ih : Lock P Q Z k) : Lock P Q Z (.setObj r o k):=by
 intro w v es B hr hc ha hB
 have hon:=On.setObj (r:=r) hr ho hn hk
 have go : ∀ (o' o'' : Obj),w.heap[r]? = some o' -> v.heap[r]? = some o'' -> ¬ Cq o' -> ¬ Cq o'' -> Bad ((Sem.setObj r o k).run Q v) \/ (Alike Z w v ((Sem.setObj r o k).run P w) ((Sem.setObj r o k).run Q v) /\ Cg Z B ((Sem.setObj r o k).events P w es)):=by
  intro o' o'' h1 h2 n1 n2
  have e1 : (Sem.setObj r o k).run P w = k.run P { w with heap:=w.heap.setIfInBounds r o }:=by
   cases o' <;> first | exact absurd trivial n1 | simp only [Sem.run,h1]
  have e2 : (Sem.setObj r o k).run Q v = k.run Q { v with heap:=v.heap.setIfInBounds r o }:=by
   cases o'' <;> first | exact absurd trivial n2 | simp only [Sem.run,h2]
  have e3 : (Sem.setObj r o k).events P w es = k.events P { w with heap:=w.heap.setIfInBounds r o } (es.push ⟨.obj r,true,o.isChan⟩):=by
   cases o' <;> first | exact absurd trivial n1 | simp only [Sem.events,Sem.runT,h1]
  rw [e1] at ha hB
  rw [e1,e2,e3]
  exact (ih _ _ _ B hon.rel (Cu hc (show Clean Z B ⟨.obj r,_,_⟩ from Nat.lt_of_lt_of_le (Array.getElem?_eq_some_iff.1 h1).1 (Nat.le_trans hon.grow (Nat.le_trans (Ec P _ _).size hB)))) (Agree.on hon ha) hB).imp id (fun t=>⟨t.1.on hon,t.2⟩)
 have hl:=hr.look r
 cases hw : w.heap[r]? with
 | none =>
  rw [hw] at hl
  cases hv : v.heap[r]? with
  | none=>left; simp only [Sem.run,hv]; trivial
  | some o''=>rw [hv] at hl; cases hl
 | some o' =>
  cases hv : v.heap[r]? with
  | none=>rw [hw,hv] at hl; cases hl
  | some o'' =>
   by_cases n2 : Cq o''
   ·cases o'' <;> first | exact n2.elim | (left; simp only [Sem.run,hv]; trivial)
   ·refine go o' o'' hw hv ?_ n2
    rw [hw,hv] at hl
    cases hl with
    | dark=>exact absurd trivial n2
    | shut _ h1=>exact h1
    | view h1 _=>cases o' <;> first | exact id | exact h1.elim
    | same=>exact n2
theorem Y5 {q : Question} {k : Nat -> Sem α} (ih : ∀ n,Lock P Q Z (k n)) : Lock P Q Z (.choose q k):=by
 intro w v es B hr hc ha hB
 cases hq : q.forced with
 | true =>
  simp only [Sem.run,hq,if_true] at ha hB
  simp only [Sem.run,Sem.events,Sem.runT,hq,if_true]
  exact ih 0 w v es B hr hc ha hB
 | false =>
  simp only [Sem.run,hq,Bool.false_eq_true,if_false] at ha hB
  have hup:=(Ec P (k (q.cut (w.tape w.drawn q))) { w with drawn:=w.drawn + 1 }).drawn
  have e0 : v.tape v.drawn = w.tape w.drawn:=by
   have:=ha 0 (by simp only [Nat.add_zero]; exact hup)
   simpa using this
  have hon:=On.draw hr
  simp only [Sem.run,Sem.events,Sem.runT,hq,Bool.false_eq_true,if_false,e0]
  exact (ih (q.cut (w.tape w.drawn q)) _ _ es B hon.rel hc (Agree.on hon ha) hB).imp id (fun t=>⟨t.1.on hon,t.2⟩)
theorem Wl {k : Program -> Sem α} (he : k P = k Q) (ih : Lock P Q Z (k Q)) : Lock P Q Z (.program k):=by
 intro w v es B hr hc ha hB
 have h:=ih
 simp only [Sem.run] at ha hB
 simp only [Sem.run,Sem.events,Sem.runT]
 rw [he] at ha hB ⊢
 exact h w v es B hr hc ha hB
theorem Ty {m : Mark} {k : Sem α} (hm : (∃ f,m = .extern f) \/ m = .noRoom) (ih : Lock P Q Z k) : Lock P Q Z (.mark m k):=by
 intro w v es B hr hc ha hB
 exact ih w v _ B hr (Cu hc hm) ha hB
theorem Fp (h : Halt) (hh : Vk h \/ Anb h) : Lock P Q Z (.halt h : Sem α):=by
 intro w v es B hr hc _ _
 rcases hh with hh | hh
 ·exact .inr ⟨⟨rfl,hh,.refl hr⟩,hc⟩
 ·exact .inl hh
theorem Ua {x : Sem α} {f : α -> Sem β} (hx : Lock P Q Z x) (hf : ∀ a,Lock P Q Z (f a)) : Lock P Q Z (x.bind f):=by
 intro w v es B hr hc ha hB
 rw [Sem.run_bind'] at ha hB
 rw [Sem.run_bind',Sem.run_bind',Sem.events_bind']
 have hup : (wOf (x.run P w)).drawn <= (wOf ((x.run P w).andThen fun a w'=>(f a).run P w')).drawn /\ (wOf (x.run P w)).heap.size <= (wOf ((x.run P w).andThen fun a w'=>(f a).run P w')).heap.size:=by
  cases x.run P w with
  | ok a w'=>exact ⟨(Ec P (f a) w').drawn,(Ec P (f a) w').size⟩
  | halt h w'=>exact ⟨Nat.le_refl _,Nat.le_refl _⟩
 have h:=hx w v es B hr hc (ha.less hup.1) (Nat.le_trans hup.2 hB)
 clear hup
 revert ha hB h
 cases hw : x.run P w with
 | ok a w' =>
  cases hv : x.run Q v with
  | ok b v' =>
   intro ha hB h
   rcases h with h | ⟨⟨rfl,hon⟩,hcl⟩
   ·exact h.elim
   ·exact (hf a w' v' _ B hon.rel hcl (Agree.on hon ha) hB).imp id (fun t=>⟨t.1.on hon,t.2⟩)
  | halt h v' =>
   intro _ _ h
   rcases h with h | ⟨h,_⟩
   ·exact .inl h
   ·exact h.elim
 | halt h w' =>
  cases hv : x.run Q v with
  | ok b v' =>
   intro _ _ h
   rcases h with h | ⟨h,_⟩
   ·exact h.elim
   ·exact h.elim
  | halt k v' =>
   intro _ _ h
   rcases h with h | ⟨⟨rfl,ho,hon⟩,hcl⟩
   ·exact .inl h
   ·exact .inr ⟨⟨rfl,ho,hon⟩,hcl⟩
end
end Go.Lift
