import Derived.Test.YtbephahokhnccaaGreatDoorXA15toA16
import Derived.Test.YtbephahokhnccaaGreatDoorProg
namespace Go.Lift
open Go.Conc (G AtRel)
variable {P : Program} {F : Array Func} {Z : Veil}
inductive I7 (P : Program) (D : World -> World -> Array Event -> Prop) (Stop : Goroutine -> World -> Prop) : Goroutine -> World -> Prop
 | stop {a : Goroutine} {w : World} : (∀ w₁,AtRel w w₁ -> Stop a w₁) -> I7 P D Stop a w
 | step {a : Goroutine} {w : World} (run : a.status = .running) (nx : World -> Goroutine × World × Array Event) :
   (∀ w₁,AtRel w w₁ -> stepG P true a w₁ = .go (nx w₁).1 (nx w₁).2.1 (nx w₁).2.2 /\ D w₁ (nx w₁).2.1 (nx w₁).2.2) ->
   (∀ w₁,AtRel w w₁ -> I7 P D Stop (nx w₁).1 (nx w₁).2.1) -> I7 P D Stop a w
def Ho (Z : Veil) (w w' : World) (es : Array Event) : Prop:=w.heap.size <= w'.heap.size /\ Cg Z w'.heap.size es
section
variable {D : World -> World -> Array Event -> Prop} {Stop : Goroutine -> World -> Prop}
def Ag7 (P : Program) (D : World -> World -> Array Event -> Prop) (Stop : Goroutine -> World -> Prop) (a : Goroutine) (w₁ : World) : Prop :=
 ∃ a' w' es,stepG P true a w₁ = .go a' w' es /\ D w₁ w' es /\ I7 P D Stop a' w'
open Classical in
theorem Ail {a : Goroutine} {w : World} (hrun : a.status = .running) (h : ¬ I7 P D Stop a w) : ∃ w₁,AtRel w w₁ /\ ¬ Ag7 P D Stop a w₁:=by
 apply Classical.byContradiction
 intro hc
 have hc' : ∀ w₁,AtRel w w₁ -> Ag7 P D Stop a w₁:=fun w₁ hw=>Classical.byContradiction fun hn=>hc ⟨w₁,hw,hn⟩
 refine h (.step hrun (fun w₁=>if hw : AtRel w w₁ then (Classical.choose (hc' w₁ hw),Classical.choose (Classical.choose_spec (hc' w₁ hw)),Classical.choose (Classical.choose_spec (Classical.choose_spec (hc' w₁ hw)))) else (a,w,#[])) (fun w₁ hw=>?_) (fun w₁ hw=>?_))
 ·have:=Classical.choose_spec (Classical.choose_spec (Classical.choose_spec (hc' w₁ hw)))
  simp only [dif_pos hw]
  exact ⟨this.1,this.2.1⟩
 ·have:=Classical.choose_spec (Classical.choose_spec (Classical.choose_spec (hc' w₁ hw)))
  simp only [dif_pos hw]
  exact this.2.2
end
section
variable (P : Program) (bad : Goroutine -> World -> Prop)
open Classical in
noncomputable def I4 (x : Goroutine × World) : World:=if h : ∃ w₁,AtRel x.2 w₁ /\ bad x.1 w₁ then Classical.choose h else x.2
noncomputable def Ag1 (x : Goroutine × World) : Goroutine × World :=
 match stepG P true x.1 (I4 bad x) with
 | .go a' w' _=>(a',w')
 | s=>(x.1,gw s)
noncomputable def F5 (x : Goroutine × World) : Nat -> Goroutine × World
 | 0=>x
 | k + 1=>Ag1 P bad (F5 x k)
noncomputable def Z4 (x : Goroutine × World) (k : Nat) : Nat:=(gw (stepG P true (F5 P bad x k).1 (I4 bad (F5 P bad x k)))).drawn - (I4 bad (F5 P bad x k)).drawn
noncomputable def Pv (x : Goroutine × World) : Nat -> Nat
 | 0=>0
 | k + 1=>Pv x k + Z4 P bad x k
open Classical in
noncomputable def Pp (x : Goroutine × World) (m : Nat) (q : Question) : Nat :=
 if h : ∃ kj : Nat × Nat,m = Pv P bad x kj.1 + kj.2 /\ kj.2 < Z4 P bad x kj.1 then
  x.2.tape ((I4 bad (F5 P bad x (Classical.choose h).1)).drawn + (Classical.choose h).2) q
 else 0
theorem Acw (x : Goroutine × World) {i j : Nat} (h : i <= j) : Pv P bad x i <= Pv P bad x j:=by
 induction h with
 | refl=>exact Nat.le_refl _
 | step _ ih=>exact Nat.le_trans ih (Nat.le_add_right _ _)
theorem Aa2 (x : Goroutine × World) {k j : Nat} (hj : j < Z4 P bad x k) : Pp P bad x (Pv P bad x k + j) = x.2.tape ((I4 bad (F5 P bad x k)).drawn + j):=by
 funext q
 have h : ∃ kj : Nat × Nat,Pv P bad x k + j = Pv P bad x kj.1 + kj.2 /\ kj.2 < Z4 P bad x kj.1:=⟨(k,j),rfl,hj⟩
 unfold Pp
 rw [dif_pos h]
 obtain ⟨e,hl⟩:=Classical.choose_spec h
 generalize Classical.choose h = kj at e hl
 obtain ⟨k',j'⟩:=kj
 dsimp only at e hl ⊢
 have hk : k = k':=by
  rcases Nat.lt_trichotomy k k' with hlt | heq | hgt
  ·have:=Acw P bad x (show k + 1 <= k' from hlt)
   simp only [Pv] at this
   omega
  ·exact heq
  ·have:=Acw P bad x (show k' + 1 <= k from hgt)
   simp only [Pv] at this
   omega
 subst hk
 have : j = j':=by omega
 subst this
 rfl
end
theorem Rel.at {w v w₁ : World} (h : Rel Z w v) (hw : AtRel w w₁) : Rel Z w₁ v:=by
 obtain ⟨d,rfl⟩:=hw
 exact ⟨h.size,h.low,h.look,h.code,h.os,h.out⟩
theorem Rel.tape {w v : World} (h : Rel Z w v) (t : Nat -> Question -> Nat) (d : Nat) : Rel Z w { v with tape:=t,drawn:=d } :=
 ⟨h.size,h.low,h.look,h.code,h.os,h.out⟩
def J7 (w₀ w v : World) : Prop:=∀ (b : Nat) (o : Obj),v.heap[b]? = some o -> Off o -> b < w₀.heap.size -> w.heap[b]? = w₀.heap[b]?
def Lifted (Z : Veil) (cw : List Frame) (S : Frame -> List Frame -> World -> Prop) (w₀ : World) (a : Goroutine) (w : World) : Prop :=
 ∃ fr frs v,a = G fr (frs ++ cw) /\ Rel Z w v /\ J7 w₀ w v /\ S fr frs v
theorem lift (H : Fair P F Z) {cw : List Frame} {S : Frame -> List Frame -> World -> Prop} {fr : Frame} {frs : List Frame} {w : World} (h1 : TameF P fr) (h2 : ∀ f ∈ frs,TameF P f) (hv : ∃ v,Rel Z w v)
  (hl : ∀ v,Rel Z w v -> ∃ n fr' frs' v',runN (strip P F) n (lone fr (frs ++ [trap F.size]) v) = .next (lone fr' (frs' ++ [trap F.size]) v') /\ TameF P fr' /\ S fr' frs' v') :
  I7 P (Ho Z) (Lifted Z cw S w) (G fr (frs ++ cw)) w:=by
 apply Classical.byContradiction
 intro hnw
 obtain ⟨v0,hv0⟩:=hv
 let bad : Goroutine -> World -> Prop:=fun a w₁=>¬ Ag7 P (Ho Z) (Lifted Z cw S w) a w₁
 let x : Goroutine × World:=(G fr (frs ++ cw),w)
 obtain ⟨n,fr₁,frs₁,v₁,hrun,ht,hS⟩:=hl _ (hv0.tape (Pp P bad x) 0)
 have key : ∀ k,k <= n -> ∃ fr' frs' v',(F5 P bad x k).1 = G fr' (frs' ++ cw) /\ TameF P fr' /\ (∀ f ∈ frs',TameF P f) /\ Rel Z (F5 P bad x k).2 v' /\ (J7 w (F5 P bad x k).2 v' /\ w.heap.size <= (F5 P bad x k).2.heap.size) /\ v'.drawn = Pv P bad x k /\ v'.tape = Pp P bad x /\ (F5 P bad x k).2.tape = w.tape /\
   ¬ I7 P (Ho Z) (Lifted Z cw S w) (F5 P bad x k).1 (F5 P bad x k).2 /\ runN (strip P F) (n - k) (lone fr' (frs' ++ [trap F.size]) v') = .next (lone fr₁ (frs₁ ++ [trap F.size]) v₁):=by
  intro k
  induction k with
  | zero=>exact fun _=>⟨fr,frs,_,rfl,h1,h2,hv0.tape _ _,⟨fun _ _ _ _ _=>rfl,Nat.le_refl _⟩,rfl,rfl,rfl,hnw,hrun⟩
  | succ k ih =>
   intro hk
   obtain ⟨fr',frs',v',e1,t1,t2,hr,⟨hof,hgr⟩,hd,htp,hwt,hnw',hrn⟩:=ih (by omega)
   have hp : AtRel (F5 P bad x k).2 (I4 bad (F5 P bad x k)) /\ bad (F5 P bad x k).1 (I4 bad (F5 P bad x k)):=by
    have:=Ail (a:=(F5 P bad x k).1) (by rw [e1]; rfl) hnw'
    unfold I4
    rw [dif_pos this]
    exact Classical.choose_spec this
   obtain ⟨hat,hbad⟩:=hp
   have hr':=hr.at hat
   have hut : (I4 bad (F5 P bad x k)).tape = w.tape:=by
    obtain ⟨d,hd⟩:=hat
    rw [hd]; exact hwt
   have hag : Agree (I4 bad (F5 P bad x k)) v' (gw (stepG P true (G fr' (frs' ++ cw)) (I4 bad (F5 P bad x k)))).drawn:=by
    intro j hj
    rw [htp,hd,Aa2 P bad x (by unfold Z4; rw [e1]; omega),hut]
   have hnk : n - k = (n - (k + 1)) + 1:=by omega
   rw [hnk] at hrn
   obtain ⟨fr'',frs'',w'',v'',es,hy,t1',t2',ho,hc,hrn'⟩:=Aev H t1 t2 hr' hag hrn ht
   have hnx : F5 P bad x (k + 1) = (G fr'' (frs'' ++ cw),w''):=by
    show Ag1 P bad (F5 P bad x k) = _
    unfold Ag1
    rw [e1,hy]
   rw [hnx]
   have hps : (I4 bad (F5 P bad x k)).heap = (F5 P bad x k).2.heap:=by
    obtain ⟨d,hd⟩:=hat
    rw [hd]; rfl
   refine ⟨fr'',frs'',v'',rfl,t1',t2',ho.rel,⟨fun b o h1 h2 h3=>?_,?_⟩,?_,ho.tv.trans htp,ho.tw.trans hut,?_,hrn'⟩
   ·obtain ⟨⟨o₀,x1,x2⟩,x3⟩:=ho.off b o h1 h2 (by rw [hps]; exact Nat.lt_of_lt_of_le h3 hgr)
    rw [hps] at x3
    exact x3.trans (hof b o₀ x1 x2 h3)
   ·have:=ho.grow
    rw [hps] at this
    exact Nat.le_trans hgr this
   ·rw [ho.step,hd]
    show _ = Pv P bad x k + Z4 P bad x k
    unfold Z4
    rw [e1,hy]
    rfl
   ·intro hw
    refine hbad ⟨_,w'',es,?_,⟨ho.grow,hc⟩,hw⟩
    rw [e1]; exact hy
 obtain ⟨fr',frs',v',e1,t1,t2,hr,⟨hof,_⟩,_,_,_,hnw',hrn⟩:=key n (Nat.le_refl _)
 rw [Nat.sub_self] at hrn
 simp only [runN] at hrn
 have hm:=Stepped.next.inj hrn
 have hg:=congrArg Machine.gs hm
 have hw:=congrArg Machine.world hm
 simp only [lone] at hg hw
 have hg' : G fr' (frs' ++ [trap F.size]) = G fr₁ (frs₁ ++ [trap F.size]):=by simpa [G] using hg
 simp only [G,Goroutine.mk.injEq] at hg'
 obtain ⟨rfl,hfs,_⟩:=hg'
 have hfs':=List.append_cancel_right hfs
 subst hfs' hw
 exact hnw' (.stop fun w₁ hw₁=>⟨fr',frs',v',e1,hr.at hw₁,(fun b o h1 h2 h3=>by obtain ⟨d,rfl⟩:=hw₁; exact hof b o h1 h2 h3),hS⟩)
end Go.Lift
namespace Go.Lift
open Go.Conc Go.ConcN
variable {P : Program} {Shun : Loc -> Prop} {B : Nat}
structure PastX (Shun : Loc -> Prop) (B n : Nat) (t : Trace) : Prop where
 past : Past Shun B t
 quiet : Quiet Shun t
 gsz : ∀ op ∈ t,op.g < n
 mem : ∀ op ∈ t,∀ x,op.act.touch? = some x -> x.loc.isMemory = true
theorem PastX.mono {B' n : Nat} {t : Trace} (h : PastX Shun B n t) (hB : B <= B') : PastX Shun B' n t:=⟨h.past.mono hB,h.quiet,h.gsz,h.mem⟩
def EvX (Shun : Loc -> Prop) (B : Nat) (e : Event) : Prop:=EvL Shun B e /\ ∀ x,(MemAct.ofEvent e).touch? = some x -> ¬ Shun x.loc /\ x.loc.isMemory = true
theorem PastX.own {n : Nat} {t : Trace} (h : PastX Shun B n t) (hn : 0 < n) {fn : FuncId} {pos : String} {es : Array Event} (hes : ∀ e ∈ es,EvX Shun B e) : PastX Shun B n (t ++ MemOp.ofEvents 0 fn pos es):=by
 have key : ∀ op ∈ MemOp.ofEvents 0 fn pos es,op.g = 0 /\ ∀ x,op.act.touch? = some x -> ¬ Shun x.loc /\ x.loc.isMemory = true:=fun op hop=>by
  obtain ⟨e,he,rfl⟩:=Go.Conc.mem_ofEvents hop
  exact ⟨rfl,(hes e he).2⟩
 refine ⟨h.past.own fun e he=>(hes e he).1,h.quiet.app fun op hop x hx hs=>absurd hs ((key op hop).2 x hx).1,fun op hop=>?_,fun op hop x hx=>?_⟩
 ·rcases Array.mem_append.1 hop with h' | h'
  ·exact h.gsz op h'
  ·rw [(key op h').1]; exact hn
 ·rcases Array.mem_append.1 hop with h' | h'
  ·exact h.mem op h' x hx
  ·exact ((key op h').2 x hx).2
theorem PastX.mute {n g : Nat} {t : Trace} (h : PastX Shun B n t) (hg : g ≠ 0) (hn : g < n) {fn : FuncId} {pos : String} {es : Array Event} (hm : ∀ e ∈ es,e.mute = true) : PastX Shun B n (t ++ MemOp.ofEvents g fn pos es):=by
 have key : ∀ op ∈ MemOp.ofEvents g fn pos es,op.g = g /\ op.act.touch? = none:=fun op hop=>by
  obtain ⟨e,he,rfl⟩:=Go.Conc.mem_ofEvents hop
  exact ⟨rfl,touch_mute (hm e he)⟩
 refine ⟨h.past.mute hg hm,h.quiet.app fun op hop x hx _=>?_,fun op hop=>?_,fun op hop x hx=>?_⟩
 ·rw [(key op hop).2] at hx; cases hx
 ·rcases Array.mem_append.1 hop with h' | h'
  ·exact h.gsz op h'
  ·rw [(key op h').1]; exact hn
 ·rcases Array.mem_append.1 hop with h' | h'
  ·exact h.mem op h' x hx
  ·rw [(key op h').2] at hx; cases hx
theorem Oq {gs : Array Goroutine} {a : Goroutine} {w : World} {sl : Option (Nat × Nat)} {t : Trace} {q : Nat -> Nat} (h0 : gs[0]? = some a) (hrun : a.status = .running) (hL : Leavers P t gs q) (hP : PastX Shun B gs.size t) :
  ∃ d sl',stepT P (crowd gs w sl) = runT P (crowd gs (w.at d) sl') 0 \/
   ∃ gs' ops q',stepT P (crowd gs w sl) = (.next (crowd gs' (w.at d) sl'),ops) /\ gs'.size = gs.size /\ gs'[0]? = some a /\ Leavers P (t ++ ops) gs' q' /\ PastX Shun B gs.size (t ++ ops) /\ sumTo gs'.size q' < sumTo gs.size q:=by
 have hall : ∀ g ∈ gs,awake g:=fun g hg=>by
  obtain ⟨i,hi,rfl⟩:=Array.mem_iff_getElem.1 hg
  by_cases hz : i = 0
  ·subst hz
   rw [Array.getElem?_eq_getElem hi] at h0
   rw [Option.some.inj h0]
   exact awake_of (.inl hrun)
  ·rcases (hL.old i _ (by omega) (Array.getElem?_eq_getElem hi)).status with h | h
   ·exact awake_of (.inl h)
   ·exact awake_of (.inr (.inr h))
 obtain ⟨i,g,d,sl',hi,hg,hst⟩:=crowd_pick (P:=P) (w:=w) (sl:=sl) hall ⟨0,a,h0,hrun⟩
 refine ⟨d,sl',?_⟩
 by_cases hz : i = 0
 ·subst hz; exact .inl hst
 have hpos : 0 < i:=by omega
 have hlt : i < gs.size:=(Array.getElem?_eq_some_iff.1 hi).1
 have hq:=hL.old i g hpos hi
 obtain ⟨k,hk⟩ : ∃ k,q i = k + 1:=by
  cases h : q i with
  | zero=>rw [h] at hq; rw [hq.1] at hg; cases hg
  | succ k=>exact ⟨k,rfl⟩
 rw [hk] at hq
 rcases hq with ⟨hf,_⟩ | ⟨_,g',es,hm,hstp,hq'⟩
 ·rw [hf] at hg; cases hg
 have hr:=runT_crowd_go (P:=P) (sl:=sl') (i:=i) hi (w:=w.at d) (by
  rw [show (i == 0) = false by simp; omega]
  exact hstp _)
 have others : ∀ j,j ≠ i -> Deaf (t ++ MemOp.ofEvents i g.frame.fn g.frame.place es) j = Deaf t j:=fun j hj =>
  Deaf_other t (g':=i) (Ne.symm hj) _ (fun op hop=>by obtain ⟨e,_,rfl⟩:=Go.Conc.mem_ofEvents hop; rfl)
 refine .inr ⟨_,_,upd q i k,hst.trans hr,by simp,?_,⟨fun j x hj hx=>?_,fun j hj=>?_⟩,hP.mute (by omega) hlt hm,?_⟩
 ·rw [Array.getElem?_setIfInBounds_ne hz,Array.getElem?_map,h0]
  simp [woken_run hrun]
 ·by_cases hji : i = j
  ·subst hji
   rw [Array.getElem?_setIfInBounds_self_of_lt (by simpa using hlt)] at hx
   cases hx
   rw [upd_same,Deaf_own]
   exact hq'
  ·rw [Array.getElem?_setIfInBounds_ne hji,Array.getElem?_map] at hx
   obtain ⟨y,hy,rfl⟩:=Option.map_eq_some_iff.1 hx
   have hqj:=hL.old j y hj hy
   rw [woken_quitsD hqj,upd_ne q k (Ne.symm hji),others j (Ne.symm hji)]
   exact hqj
 ·have : gs.size <= j:=by simpa using hj
  rw [others j (by omega)]
  exact hL.above j this
 ·have:=sumTo_upd q k id hlt
  have this : sumTo gs.size (upd q i k) + (k + 1) = sumTo gs.size q + k:=by simpa [hk] using this
  have hs : ((gs.map (woken P g g' (w.at d))).setIfInBounds i g').size = gs.size:=by simp
  rw [hs]
  omega
theorem Qv {gs : Array Goroutine} {a a' : Goroutine} {w w' : World} {sl : Option (Nat × Nat)} {t : Trace} {q : Nat -> Nat} {es : Array Event} (h0 : gs[0]? = some a) (hL : Leavers P t gs q) (hs : stepG P true a w = .go a' w' es) :
  ∃ gs',runT P (crowd gs w sl) 0 = (.next (crowd gs' w' sl),MemOp.ofEvents 0 a.frame.fn a.frame.place es) /\ gs'.size = gs.size /\ gs'[0]? = some a' /\ Leavers P (t ++ MemOp.ofEvents 0 a.frame.fn a.frame.place es) gs' q:=by
 have hlt : 0 < gs.size:=(Array.getElem?_eq_some_iff.1 h0).1
 have others : ∀ j,j ≠ 0 -> Deaf (t ++ MemOp.ofEvents 0 a.frame.fn a.frame.place es) j = Deaf t j:=fun j hj =>
  Deaf_other t (g':=0) (Ne.symm hj) _ (fun op hop=>by obtain ⟨e,_,rfl⟩:=Go.Conc.mem_ofEvents hop; rfl)
 refine ⟨_,runT_crowd_go (P:=P) (sl:=sl) (i:=0) h0 hs,by simp,by simp [hlt],fun j x hj hx=>?_,fun j hj=>?_⟩
 ·have hne : 0 ≠ j:=by omega
  rw [Array.getElem?_setIfInBounds_ne hne,Array.getElem?_map] at hx
  obtain ⟨y,hy,rfl⟩:=Option.map_eq_some_iff.1 hx
  have hq:=hL.old j y hj hy
  rw [woken_quitsD hq,others j (by omega)]
  exact hq
 ·have : gs.size <= j:=by simpa using hj
  rw [others j (by omega)]
  exact hL.above j this
structure Dv (P : Program) (Shun : Loc -> Prop) (B n : Nat) (a : Goroutine) (w : World) (m : Machine) (t : Trace) : Prop where
 ex : ∃ gs sl q,m = crowd gs w sl /\ gs.size = n /\ gs[0]? = some a /\ Leavers P t gs q /\ PastX Shun B n t
def Runs (P : Program) (m : Machine) (t : Trace) (S : Machine -> Trace -> Prop) : Prop:=∃ N m' t',runNT P N m t = (.next m',t') /\ S m' t'
theorem Runs.here {m : Machine} {t : Trace} {S : Machine -> Trace -> Prop} (h : S m t) : Runs P m t S:=⟨0,m,t,rfl,h⟩
theorem Runs.step {m m' : Machine} {t : Trace} {ops : Array MemOp} {S : Machine -> Trace -> Prop} (h : stepT P m = (.next m',ops)) (k : Runs P m' (t ++ ops) S) : Runs P m t S:=by
 obtain ⟨N,m₂,t₂,h1,h2⟩:=k
 exact ⟨N + 1,m₂,t₂,by simp only [runNT,h]; exact h1,h2⟩
theorem runNT_add {m : Machine} {t : Trace} : ∀ (a b : Nat),runNT P (a + b) m t = match runNT P a m t with
  | (.next m',t')=>runNT P b m' t'
  | e=>e:=by
 intro a
 induction a generalizing m t with
 | zero=>intro b; simp [runNT]
 | succ a ih =>
  intro b
  rw [show a + 1 + b = (a + b) + 1 by omega]
  simp only [runNT]
  cases h : stepT P m with
  | mk s ops =>
   cases s with
   | next m'=>simp only [ih]
   | ended o w=>rfl
theorem Runs.then {m : Machine} {t : Trace} {S S' : Machine -> Trace -> Prop} (h : Runs P m t S) (k : ∀ m' t',S m' t' -> Runs P m' t' S') : Runs P m t S':=by
 obtain ⟨N,m₁,t₁,h1,h2⟩:=h
 obtain ⟨N',m₂,t₂,h3,h4⟩:=k m₁ t₁ h2
 exact ⟨N + N',m₂,t₂,by rw [runNT_add,h1]; exact h3,h4⟩
theorem Runs.mono {m : Machine} {t : Trace} {S S' : Machine -> Trace -> Prop} (h : Runs P m t S) (k : ∀ m' t',S m' t' -> S' m' t') : Runs P m t S':=h.then fun m' t' hs=>.here (k m' t' hs)
theorem M9 {D : World -> World -> Array Event -> Prop} {Stop : Goroutine -> World -> Prop} {β : World -> Nat} (hβ : ∀ w d,β (w.at d) = β w) (hD : ∀ w w' es,D w w' es -> β w <= β w' /\ ∀ e ∈ es,EvX Shun (β w') e) {a : Goroutine} {w : World} {n : Nat} (h : I7 P D Stop a w) :
  ∀ {w₀ : World} {m : Machine} {t : Trace},AtRel w w₀ -> Dv P Shun (β w₀) n a w₀ m t -> Runs P m t fun m' t'=>∃ a' w',Stop a' w' /\ Dv P Shun (β w') n a' w' m' t':=by
 induction h with
 | stop hs=>exact fun hw hst=>.here ⟨_,_,hs _ hw,hst⟩
 | @step a w hrun nx hnx _ ih =>
  suffices ∀ (K : Nat) (w₀ : World) (gs : Array Goroutine) (sl : Option (Nat × Nat)) (t : Trace) (q : Nat -> Nat),sumTo gs.size q <= K -> AtRel w w₀ -> gs.size = n -> gs[0]? = some a -> Leavers P t gs q -> PastX Shun (β w₀) n t ->
    Runs P (crowd gs w₀ sl) t fun m' t'=>∃ a' w',Stop a' w' /\ Dv P Shun (β w') n a' w' m' t' by
   rintro w₀ m t hw ⟨gs,sl,q,rfl,hn,h0,hL,hP⟩
   exact this _ w₀ gs sl t q (Nat.le_refl _) hw hn h0 hL hP
  intro K
  induction K with
  | zero =>
   intro w₀ gs sl t q hK hw hn h0 hL hP
   obtain ⟨d,sl',hst | ⟨gs',ops,q',hst,hn',h0',hL',hP',hlt⟩⟩:=Oq (w:=w₀) (sl:=sl) h0 hrun hL (hn ▸ hP)
   ·have hw' : AtRel w (w₀.at d):=atRel_trans _ _ _ hw ⟨d,rfl⟩
    obtain ⟨hs,hd⟩:=hnx _ hw'
    obtain ⟨gs',hr,hn',h0',hL'⟩:=Qv (P:=P) (sl:=sl') h0 hL hs
    obtain ⟨hg,he⟩:=hD _ _ _ hd
    exact .step (hst.trans hr) (ih _ hw' ⟨(nx (w₀.at d)).2.1.drawn,rfl⟩ ⟨gs',sl',q,rfl,hn'.trans hn,h0',hL',((hβ w₀ d).symm ▸ hP : PastX Shun (β (w₀.at d)) n t).mono hg |>.own (by rw [<- hn]; exact (Array.getElem?_eq_some_iff.1 h0).1) he⟩)
   ·omega
  | succ K ihK =>
   intro w₀ gs sl t q hK hw hn h0 hL hP
   obtain ⟨d,sl',hst | ⟨gs',ops,q',hst,hn',h0',hL',hP',hlt⟩⟩:=Oq (w:=w₀) (sl:=sl) h0 hrun hL (hn ▸ hP)
   ·have hw' : AtRel w (w₀.at d):=atRel_trans _ _ _ hw ⟨d,rfl⟩
    obtain ⟨hs,hd⟩:=hnx _ hw'
    obtain ⟨gs',hr,hn',h0',hL'⟩:=Qv (P:=P) (sl:=sl') h0 hL hs
    obtain ⟨hg,he⟩:=hD _ _ _ hd
    exact .step (hst.trans hr) (ih _ hw' ⟨(nx (w₀.at d)).2.1.drawn,rfl⟩ ⟨gs',sl',q,rfl,hn'.trans hn,h0',hL',((hβ w₀ d).symm ▸ hP : PastX Shun (β (w₀.at d)) n t).mono hg |>.own (by rw [<- hn]; exact (Array.getElem?_eq_some_iff.1 h0).1) he⟩)
   ·exact .step hst (ihK (w₀.at d) gs' sl' (t ++ ops) q' (by omega) (atRel_trans _ _ _ hw ⟨d,rfl⟩) (hn'.trans hn) h0' hL' ((hβ w₀ d).symm ▸ (hn ▸ hP')))
def Gn (Z : Veil) (Shun : Loc -> Prop) : Prop:=∀ l,Shun l -> ∃ a,l = .cell a /\ Z a.block
theorem Xd {Z : Veil} (hZ : Gn Z Shun) {e : Event} (h : Clean Z B e) : EvX Shun B e:=by
 obtain ⟨loc,wr,sy⟩:=e
 have touch : ∀ x,(MemAct.ofEvent ⟨loc,wr,sy⟩).touch? = some x -> ¬ Shun x.loc /\ x.loc.isMemory = true:=by
  intro x hx
  cases loc with
  | cell a =>
   simp only [MemAct.ofEvent,MemAct.touch?,Option.some.injEq] at hx
   subst hx
   refine ⟨fun hs=>?_,rfl⟩
   obtain ⟨a',e,hz⟩:=hZ _ hs
   cases e
   exact h.1 hz
  | obj r =>
   have : x.loc = .obj r:=by
    cases wr <;> cases sy <;> simp only [MemAct.ofEvent,MemAct.touch?,Option.some.injEq,reduceCtorEq] at hx <;> subst hx <;> rfl
   rw [this]
   refine ⟨fun hs=>?_,rfl⟩
   obtain ⟨a',e,hz⟩:=hZ _ hs
   cases e
  | mark m=>rcases h with ⟨f,rfl⟩ | rfl <;> simp [MemAct.ofEvent,MemAct.touch?] at hx
  | output=>exact h.elim
  | goroutines=>exact h.elim
 refine ⟨⟨fun x hx hs=>absurd hs (touch x hx).1,?_,?_,?_⟩,touch⟩
 ·rintro rfl; rcases h with ⟨f,h⟩ | h <;> cases h
 ·rintro rfl; rcases h with ⟨f,h⟩ | h <;> cases h
 ·cases loc with
  | cell a=>exact h.2
  | obj r=>cases wr <;> cases sy <;> exact h
  | mark m=>rcases h with ⟨f,rfl⟩ | rfl <;> exact trivial
  | output=>exact h.elim
  | goroutines=>exact h.elim
theorem Acb {Z : Veil} (hZ : Gn Z Shun) : ∀ w w' es,Ho Z w w' es -> w.heap.size <= w'.heap.size /\ ∀ e ∈ es,EvX Shun w'.heap.size e :=
 fun _ _ _ h=>⟨h.1,fun e he=>Xd hZ (h.2 e he)⟩
end Go.Lift
namespace Go.Lift
variable {Z Z' : Veil} {w v : World}
open Classical in
noncomputable def Agx (Z : Veil) (b : Nat) (o : Obj) : Obj :=
 match o with
 | .view _ u=>.view ⟨0,0,some default⟩ u
 | .cells c e f=>if Z b then .cells #[] e else .cells c e f
 | o=>if Hl Z o then o else .coro none
theorem Q8 (hlow : ∀ b,Z b -> b < w.heap.size) (hbad : ∀ (b : Nat) (o : Obj),w.heap[b]? = some o -> ¬ Dw o -> ¬ Hl Z o -> Z b)
  (hfz : ∀ (b : Nat) (c : Array Value) (e : TypeId) (f : Nat × Nat),Z b -> w.heap[b]? = some (.cells c e f) -> f = (0,0)) : ∃ v,Rel Z w v:=by
 refine ⟨{ w with heap:=w.heap.mapIdx (Agx Z) },by simp,hlow,fun b=>?_,fun b o ho=>?_,rfl,rfl⟩
 ·simp only [Array.getElem?_mapIdx]
  cases hb : w.heap[b]? with
  | none=>exact .same fun o ho=>by cases ho
  | some o =>
   have hbad':=hbad b o hb
   simp only [Option.map_some]
   unfold Agx
   split
   ·exact .view trivial rfl
   ·split
    ·rename_i c e f hz
     have:=hfz b c e f hz hb
     subst this
     exact .dark hz
    ·rename_i hz
     exact .same fun o ho=>by cases ho; exact ⟨id,fun z=>absurd z hz⟩
   ·rename_i h1 h2
    have hv : ¬ Dw o:=by cases o <;> first | exact id | exact absurd rfl (h1 _ _)
    have hc : ¬ Cq o:=by cases o <;> first | exact id | exact absurd rfl (h2 _ _ _)
    split
    ·exact .same fun o' ho=>by cases ho; exact ⟨hv,fun _=>hc⟩
    ·rename_i hf
     exact .shut (hbad' hv hf) hc hv (by rintro a l rfl; exact hf trivial)
 ·simp only [Array.getElem?_mapIdx] at ho
  obtain ⟨x,hx,rfl⟩:=Option.map_eq_some_iff.1 ho
  unfold Agx
  split
  ·exact trivial
  ·split <;> exact trivial
  ·split
   ·assumption
   ·exact trivial
end Go.Lift
namespace Go.Lift
open Go.Extern
variable {α β : Type} {P : Program} {F : Array Func} {Z : Veil}
theorem Hd : ∀ (d : Nat) (t : TypeId),(strip P F).namesPacked d t = P.namesPacked d t
 | 0,_=>rfl
 | d + 1,t=>by
  have ih : (strip P F).namesPacked d = P.namesPacked d:=funext fun t=>Hd d t
  simp only [Program.namesPacked,ih,Gf]
  rfl
theorem He : ∀ (d : Nat) (t : TypeId),(strip P F).methodsOfAPack d t = P.methodsOfAPack d t
 | 0,_=>rfl
 | d + 1,t=>by
  have ih : (strip P F).methodsOfAPack d = P.methodsOfAPack d:=funext fun t=>He d t
  simp only [Program.methodsOfAPack,ih,Gf]
  rfl
theorem Alj {f : Program -> Bool} {u : Unsupported} (hu : ∀ g,u ≠ .initOrder g) (h : f (strip P F) = f P) : Lk P F Z (program >>= fun p=>if f p = true then (unsupported u : Sem Unit) else pure ()):=by
 refine Ca (by rw [h]) ?_
 exact Ii (A7 _ hu) (Aq _)
theorem Qf {f : Program -> Program -> Bool} {u : Unsupported} (hu : ∀ g,u ≠ .initOrder g) (h1 : ∀ q,f (strip P F) q = f P q) (h2 : ∀ q,f q (strip P F) = f q P) : Lk P F Z (program >>= fun p=>program >>= fun q=>if f p q = true then (unsupported u : Sem Unit) else pure ()):=by
 refine Ca (by simp only [h1]) ?_
 refine Ca (by rw [h2]) ?_
 exact Ii (A7 _ hu) (Aq _)
theorem Nj (s : String) (t : TypeId) : Lk P F Z (Rtype.noPack s t):=Alj (f:=fun p=>p.packed t) (fun g h=>by cases h) (Gf t)
theorem Si (s : String) (t : TypeId) : Lk P F Z (Rtype.noPackHeld s t):=Qf (f:=fun p q=>p.holdsPacked q.depth t) (fun g h=>by cases h) (fun q=>Ff _ t) (fun q=>rfl)
theorem Rp (s : String) (t : TypeId) : Lk P F Z (Rtype.noPackNamed s t):=Qf (f:=fun p q=>p.namesPacked q.depth t) (fun g h=>by cases h) (fun q=>Hd _ t) (fun q=>rfl)
theorem N9 (s : String) (t : TypeId) : Lk P F Z (Rtype.noPackMethods s t):=Qf (f:=fun p q=>p.methodsOfAPack q.depth t) (fun g h=>by cases h) (fun q=>He _ t) (fun q=>rfl)
theorem Aff (t : TypeId) : Lk P F Z (Rtype.handle t):=by
 unfold Rtype.handle
 exact lkz
theorem G7 (h : Value) : Lk P F Z (Rtype.ofHandle h):=by
 unfold Rtype.ofHandle
 exact lkz
theorem Aiu (t : TypeId) : Lk P F Z (Rtype.spelt t):=by
 unfold Rtype.spelt
 exact lkz
theorem Abt (n : String) : Lk P F Z (Go.cutType n):=by
 unfold Go.cutType
 exact lkz
theorem Ji (n : String) : Lk P F Z ((panicString n : Sem α)):=by
 unfold panicString
 exact lkz
theorem Ae2 (t : TypeId) : Lk P F Z (Rtype.under t):=by
 unfold Rtype.under
 exact lkz
theorem Ac8 (t : TypeId) : Lk P F Z (Rtype.kind t):=by
 unfold Rtype.kind
 exact lkz
theorem Abl (t : TypeId) : Lk P F Z (Rtype.hasName t):=by
 unfold Rtype.hasName
 exact lkz
theorem Ai8 (t : TypeId) : Lk P F Z (Rtype.elem? t):=by
 unfold Rtype.elem?
 exact lkz
theorem Sj (t u : TypeId) : Lk P F Z (Rtype.implements t u):=by
 unfold Rtype.implements
 exact lkz
theorem Afi (t u : TypeId) : Lk P F Z (Rtype.directlyAssignable t u):=by
 unfold Rtype.directlyAssignable
 exact lkz
theorem Ni (t : TypeId) : Lk P F Z (ReflectliteType.toType t):=by
 unfold ReflectliteType.toType
 exact lkz
theorem Ky (h : Value) : Lk P F Z (ReflectliteType.ofRtype h):=by
 unfold ReflectliteType.ofRtype
 cases h with
 | agg x =>
  obtain ⟨l⟩:=x
  rcases l with _ | ⟨a,_ | ⟨b,l⟩⟩
  ·exact Ap _
  ·exact Ao (G7 _) (fun _=>Ao (Nj _ _) (fun _=>Aq _))
  ·exact Ap _
 | _=>exact Ap _
theorem Fw (m : String) (k : Nat) : Lk P F Z ((ReflectliteValue.valueError m k : Sem α)):=by
 unfold ReflectliteValue.valueError
 exact lkz
theorem Aoh (t : TypeId) (a : Addr) (n : Nat) : Lk P F Z (ReflectliteValue.mk t a n):=by
 unfold ReflectliteValue.mk
 exact lkz
theorem Ov (x : Value) : Lk P F Z (ReflectliteValue.partsAny x):=by
 unfold ReflectliteValue.partsAny
 cases x with
 | agg x =>
  obtain ⟨l⟩:=x
  rcases l with _ | ⟨a,_ | ⟨b,_ | ⟨c,_ | ⟨d,l⟩⟩⟩⟩
  ·exact Ap _
  ·exact Ap _
  ·exact Ap _
  ·cases c with
   | int k n =>
    cases k with
    | u64 =>
     cases n with
     | ofNat n =>
      cases n with
      | zero=>exact Aq _
      | succ n =>
       cases b with
       | pointer p =>
        cases p with
        | none=>exact Ap _
        | some a'=>exact Ao (G7 _) (fun _=>Aq _)
       | _=>exact Ap _
     | negSucc n =>
      cases b with
      | pointer p =>
       cases p with
       | none=>exact Ap _
       | some a'=>exact Ao (G7 _) (fun _=>Aq _)
      | _=>exact Ap _
    | _=>exact Ap _
   | _=>exact Ap _
  ·exact Ap _
 | _=>exact Ap _
theorem Lm (x : Value) : Lk P F Z (ReflectliteValue.parts x):=by
 unfold ReflectliteValue.parts
 exact lkz
theorem Abe (x : Array Value) : Lk P F Z (ReflectliteType.typeOf x):=by
 unfold ReflectliteType.typeOf
 obtain ⟨l⟩:=x
 rcases l with _ | ⟨a,_ | ⟨b,l⟩⟩
 ·exact Ap _
 ·cases a with
  | nilIface=>exact Aq _
  | iface t v=>exact Ni _
  | _=>exact Ap _
 ·exact Ap _
theorem Qy (x : Value) : Lk P F Z (ReflectliteValue.unpack x):=by
 unfold ReflectliteValue.unpack
 exact lkz
theorem Ai1 (t : TypeId) : Lk P F Z (ReflectliteType.elem t):=by
 unfold ReflectliteType.elem
 exact lkz
theorem Ai0 (t u : TypeId) : Lk P F Z (ReflectliteType.implements_ t u):=by
 unfold ReflectliteType.implements_
 exact lkz
theorem Abf (t u : TypeId) : Lk P F Z (ReflectliteType.assignableTo t u):=by
 unfold ReflectliteType.assignableTo
 exact lkz
theorem Aex (t : TypeId) (a : Addr) (n m : Nat) : Lk P F Z (ReflectliteValue.isNil t a n m):=by
 unfold ReflectliteValue.isNil
 exact lkz
theorem Aiq (t : TypeId) (a : Addr) (n m : Nat) : Lk P F Z (ReflectliteValue.elem t a n m):=by
 unfold ReflectliteValue.elem
 exact lkz
theorem Alk (x : Array Value) : Lk P F Z (ReflectliteValue.set x):=by
 unfold ReflectliteValue.set
 obtain ⟨l⟩:=x
 rcases l with _ | ⟨a,_ | ⟨b,_ | ⟨c,l⟩⟩⟩
 ·exact Ap _
 ·exact Ap _
 ·refine Ao (Lm a) (fun p=>Ao (Lm b) (fun q=>?_))
  exact lkz
 ·exact Ap _
theorem Qz {f : TypeId -> Sem Value} (hf : ∀ t,Lk P F Z (f t)) (x : Array Value) : Lk P F Z (ReflectliteType.method f x):=by
 obtain ⟨l⟩:=x
 rcases l with _ | ⟨a,_ | ⟨b,l⟩⟩
 ·exact Ap _
 ·exact Ao (Ky a) (fun _=>hf _)
 ·exact Ap _
theorem L8 {s : String} {f : TypeId -> TypeId -> Sem Bool} (hf : ∀ t u,Lk P F Z (f t u)) (x : Array Value) : Lk P F Z (ReflectliteType.relation s f x):=by
 obtain ⟨l⟩:=x
 rcases l with _ | ⟨a,_ | ⟨b,_ | ⟨c,l⟩⟩⟩
 ·exact Ap _
 ·exact Ap _
 ·cases b with
  | nilIface=>exact Ji _
  | iface t u=>exact Ao (Ky u) (fun _=>Ao (Ky a) (fun _=>Ao (hf _ _) (fun _=>Aq _)))
  | _=>exact Ap _
 ·exact Ap _
theorem Alm {f : TypeId -> Sem Value} (hf : ∀ t,Lk P F Z (f t)) (x : Array Value) : Lk P F Z (ReflectliteType.abiMethod f x):=by
 obtain ⟨l⟩:=x
 rcases l with _ | ⟨a,_ | ⟨b,l⟩⟩
 ·exact Ap _
 ·exact Ao (G7 a) (fun _=>Ao (Nj _ _) (fun _=>hf _))
 ·exact Ap _
theorem Qx {z : Sem Value} {f : TypeId -> Addr -> Nat -> Nat -> Sem Value} (hz : Lk P F Z z) (hf : ∀ t a n m,Lk P F Z (f t a n m)) (x : Array Value) : Lk P F Z (ReflectliteValue.method z f x):=by
 obtain ⟨l⟩:=x
 rcases l with _ | ⟨a,_ | ⟨b,l⟩⟩
 ·exact Ap _
 ·refine Ao (Lm a) (fun p=>?_)
  cases p with
  | none=>exact hz
  | some p=>exact hf _ _ _ _
 ·exact Ap _
theorem Sb {z : Sem Value} {f : TypeId -> Addr -> Nat -> Nat -> Sem Value} (hz : Lk P F Z z) (hf : ∀ t a n m,Lk P F Z (f t a n m)) (x : Array Value) : Lk P F Z (ReflectliteValue.methodAny z f x):=by
 obtain ⟨l⟩:=x
 rcases l with _ | ⟨a,_ | ⟨b,l⟩⟩
 ·exact Ap _
 ·refine Ao (Ov a) (fun p=>?_)
  cases p with
  | none=>exact hz
  | some p=>exact hf _ _ _ _
 ·exact Ap _
theorem Rm (t : TypeId) : Lk P F Z (do Rtype.noPackHeld "Comparable" t; pure (.bool (<- typeInfo t).comparable) : Sem Value) :=
 Ao (Si _ _) (fun _=>Ao (Ex _) (fun _=>Aq _))
theorem Aiz (t : TypeId) : Lk P F Z (do pure (.int .u8 (<- Rtype.kind t)) : Sem Value):=Ao (Ac8 _) (fun _=>Aq _)
end Go.Lift
namespace Go.Mark
open Go.Lift Go.Proofs
def shut (r : Array ResultVar) : Func:={ (default : Func) with name:= "shut",origin:= "shut",results:=r,body:=none }
noncomputable def J6 (f : Func) : Bool:=f.name != "runtime.NumGoroutine" && (match f.body with | some b=>Br Tryz.prog b | none=>false)
def exts : List Nat:=[132,142,257,258,259,287,288,289,362,381,382,383,384]
noncomputable def FQ : Array Func:=Tryz.prog.funcs.mapIdx fun i f=>if exts.contains i || J6 f then f else shut f.results
end Go.Mark
namespace Go.Proofs
open Go.Lift Go.Mark
noncomputable def TryQ.prog : Program:=strip Tryz.prog FQ
theorem TryQ.prog_eq : TryQ.prog = strip Tryz.prog FQ:=rfl
end Go.Proofs
namespace Go.Mark
open Go.Lift Go.Proofs
def veil (D : Nat -> Prop) : Veil:=⟨D,fun c=>Br Tryz.prog c = true⟩
theorem qf : TryQ.prog.funcs = FQ:=by
 rw [TryQ.prog_eq]
theorem Aai {n : Nat} {f : Func} (h : Tryz.prog.funcs[n]? = some f) : FQ[n]? = some (if exts.contains n || J6 f then f else shut f.results):=by
 simp only [FQ,Array.getElem?_mapIdx,h,Option.map_some]
theorem Aqz {n : Nat} {f : Func} (h : Tryz.prog.funcs[n]? = some f) (hk : J6 f = true) : TryQ.prog.funcs[n]? = some f:=by
 rw [qf,Aai h,hk]
 simp
theorem Ms {n : Nat} {f : Func} (h : Tryz.prog.funcs[n]? = some f) (hk : exts.contains n = true) : TryQ.prog.funcs[n]? = some f:=by
 rw [qf,Aai h,hk]
 simp
theorem Aeb (r : Array ResultVar) : Extern.find (shut r) = none /\ Extern.findNext (shut r) = none:=by
 constructor <;> kernel_rfl
theorem Uu {α : Type} {P : Program} {F : Array Func} {Z : Veil} {s : Sem α} (h : Hm (strip P F) s) : Lk P F Z s:=⟨fun _ v _ _ _ _ _ _=>.inl (h v)⟩
theorem Oj {Q : Program} {f : Nat} {args : Array Value} {r : Array ResultVar} (h' : Q.funcs[f]? = some (shut r)) : Hm Q (callFunc f args):=by
 intro v
 obtain ⟨h1,h2⟩:=Aeb r
 have n1 : ((shut r).name == "runtime.NumGoroutine") = false:=rfl
 have n2 : (shut r).body.isNone = true:=rfl
 have n3 : ((shut r).name.endsWith ".init" && !(shut r).name.startsWith "(" && !(shut r).name.startsWith "gosem.") = false:=by kernel_rfl
 have e : (callFunc f args).run Q v = .halt (.unsupported (.extern "shut")) v:=by
  unfold callFunc
  simp only [Sem.run_bind,run_program,Result.andThen_ok,h',n1,n2,h1,h2,n3]
  simp
  rfl
 rw [e]
 exact trivial
end Go.Mark
