import Derived.Test.YtbephahokhnccaaGreatDoorXA12toA14
import Derived.Conc.Beside
namespace Go.Lift
open Go.Conc (G mem_seen)
variable {P : Program} {F : Array Func} {Z : Veil}
theorem Aj4 {α : Type} (w : World) (k : Ask α) : (w.ask k).2.heap = w.heap:=by
 induction k generalizing w with
 | done a=>rfl
 | ask what range k ih =>
  unfold World.ask
  dsimp only
  split
  ·exact ih _ w
  ·exact ih _ _
theorem Ahw (w : World) (c : Sys) : (w.sys c).2.heap = w.heap:=by
 have h:=Aj4 w (Kernel.perform c w.os)
 unfold World.sys
 split
 ·rfl
 ·rename_i e; rw [e] at h; exact h
theorem Ajo {Q : Program} {v : World} (hv : Ht Z v) : ∃ h v',(runtimePanic .panicNil : Sem Value).run Q v = .halt h v' /\ Ht Z v' /\ ((∃ p,h = .panic p) \/ ∃ s,h = .stuck s):=by
 unfold runtimePanic elemOf Go.underlying
 simp only [Sem.run_bind,run_program,Result.andThen_ok]
 cases Q.underlying Q.rt.panicNilError with
 | none=>exact ⟨_,v,rfl,hv,.inr ⟨_,rfl⟩⟩
 | some d =>
  cases d with
  | pointer e =>
   refine ⟨_,_,rfl,fun b o h=>?_,.inl ⟨_,rfl⟩⟩
   simp only [Array.getElem?_push] at h
   split at h
   ·cases h; exact True.intro
   ·exact hv b o h
  | _=>exact ⟨_,v,rfl,hv,.inr ⟨_,rfl⟩⟩
theorem Ab9 {Q : Program} (x : Value) {v : World} (hv : Ht Z v) : ∃ h v',(Instr.panic x).run Q v = .halt h v' /\ Ht Z v' /\ ((∃ p,h = .panic p) \/ ∃ s,h = .stuck s):=by
 cases x with
 | iface t y=>exact ⟨_,v,rfl,hv,.inl ⟨_,rfl⟩⟩
 | nilIface =>
  have hu : Ht Z (v.sys .env).2:=fun b o h=>hv b o (by rw [<- Ahw v .env]; exact h)
  unfold Instr.panic Instr.panicnil
  simp only [Sem.run_bind]
  have e : (Go.sys .env).run Q v = .ok (v.sys .env).1 (v.sys .env).2:=rfl
  rw [e]
  generalize (v.sys .env).1 = r
  generalize (v.sys .env).2 = u at hu
  simp only [Result.andThen_ok]
  cases r with
  | strings env =>
   simp only [Sem.run_bind,run_program,Result.andThen_ok,Sem.run_pure]
   split
   ·exact ⟨_,u,rfl,hu,.inl ⟨_,rfl⟩⟩
   ·exact Ajo hu
  | _=>exact ⟨_,u,rfl,hu,.inr ⟨_,rfl⟩⟩
 | _=>exact ⟨_,v,rfl,hv,.inr ⟨_,rfl⟩⟩
theorem Aa6 {fr : Frame} {frs : List Frame} {v : World} {o : Oper} {x : Operand} (h1 : TameF P fr) (h2 : ∀ f ∈ frs,TameF P f) (hv : Ht Z v) (ho : o.op = .panic x) :
  LostS F Z (stepG.apply (strip P F) true fr (frs ++ [trap F.size]) none (execOp fr.eval o) v):=by
 obtain ⟨h,v',he,hf,hh⟩:=Ab9 (Q:=strip P F) (fr.eval x) hv
 have he' : (execOp fr.eval o).run (strip P F) v = .halt h v':=by
  unfold execOp
  rw [ho]
  simp only [Sem.run_bind,he]
  rfl
 unfold stepG.apply
 simp only [Sem.runT_eq,if_true,h1.kind,he']
 refine LostS.after ?_ _
 rcases hh with ⟨p,rfl⟩ | ⟨s,rfl⟩
 ·exact Ku h1 h2 hf _ _
 ·exact True.intro
section
variable {cw : List Frame} {w v : World} {B : Nat}
theorem Lc {α : Type} {s : Sem α} (hs : Lk P F Z s) (hr : Rel Z w v) {k : Result α -> GStep} {k' : Result α -> GStep} {p q : Program} {f g : FuncId}
  (hu : Up (wOf (s.run P w)) (gw (k (s.run P w))))
  (ha : Agree w v (gw (k (s.run P w))).drawn) (hB : (gw (k (s.run P w))).heap.size <= B)
  (hok : ∀ a w' v',On Z w v w' v' -> s.run (strip P F) v = .ok a v' -> Agree w' v' (gw (k (.ok a w'))).drawn -> (gw (k (.ok a w'))).heap.size <= B -> Live P F Z cw w v B (k (.ok a w')) (k' (.ok a v')))
  (hh : ∀ h v',(Anb h \/ Vk h /\ Ht Z v') -> LostS F Z (k' (.halt h v'))) :
  Live P F Z cw w v B ((k (s.run P w)).after (seen p f (s.events P w #[]))) ((k' (s.run (strip P F) v)).after (seen q g (s.events (strip P F) v #[]))):=by
 have hl:=hs.ok w v #[] B hr clean_nil (ha.less hu.drawn) (Nat.le_trans hu.size hB)
 revert hl ha hB
 cases h1 : s.run P w with
 | ok a w' =>
  cases h2 : s.run (strip P F) v with
  | ok b v' =>
   intro ha hB hl
   rcases hl with hl | ⟨⟨rfl,ho⟩,hcl⟩
   ·exact hl.elim
   ·exact (hok a w' v' ho h2 (ha.on ho) hB).after (Ra hcl _ _)
  | halt h v' =>
   intro ha hB hl
   rcases hl with hl | ⟨hl,_⟩
   ·exact .inl ((hh h v' (.inl hl)).after _)
   ·exact hl.elim
 | halt h w' =>
  cases h2 : s.run (strip P F) v with
  | ok b v' =>
   intro ha hB hl
   rcases hl with hl | ⟨hl,_⟩
   ·exact hl.elim
   ·exact hl.elim
  | halt h' v' =>
   intro ha hB hl
   rcases hl with hl | ⟨⟨rfl,hk,ho⟩,_⟩
   ·exact .inl ((hh h' v' (.inl hl)).after _)
   ·exact .inl ((hh h v' (.inr ⟨hk,ho.rel.code⟩)).after _)
def Ij (p : Program) (fr : Frame) (cs : List Frame) (jump : Option Code) (w : World) : GStep :=
 match fr.roundOf with
 | none=>if jump matches none | some .ret then .go { frame:={ fr with mode:=.returning },callers:=cs,status:=.running,dying:=none } w else .ended (.stuck "exit, goto: no such block or label" (fr.pos p)) w
 | some l =>
  let (r,es):=(Instr.endRound l jump).runT p w #[]
  GStep.after (seen p fr.fn es) <| match r with
  | .ok v w=>doReturn p true fr cs none v w
  | .halt _ w=>.ended (.stuck "range over a function: no such loop" (fr.pos p)) w
theorem O1 (p : Program) (fr : Frame) (cs : List Frame) (a : Value) (w : World) : gw (doReturn p true fr cs none a w) = w:=by
 unfold doReturn
 repeat' split
 all_goals rfl
theorem Iu (H : Fair P F Z) {fr : Frame} {frs : List Frame} (h1 : TameF P fr) (h2 : ∀ f ∈ frs,TameF P f) (hr : Rel Z w v) {jump : Option Code} (hj : ∀ c,jump = some c -> Br P c = true)
  (ha : Agree w v (gw (Ij P fr (frs ++ cw) jump w)).drawn) (hB : (gw (Ij P fr (frs ++ cw) jump w)).heap.size <= B) :
  Live P F Z cw w v B (Ij P fr (frs ++ cw) jump w) (Ij (strip P F) fr (frs ++ [trap F.size]) jump v):=by
 unfold Ij at ha hB ⊢
 cases hro : fr.roundOf with
 | none =>
  cases jump with
  | none=>exact Gc (fr:={ fr with mode:=.returning,roundOf:=none }) (.refl hr) ⟨h1.todo,h1.defers,.inr rfl,h1.kind⟩ h2
  | some c =>
   cases c <;> first
    | exact .inl True.intro
    | exact Gc (fr:={ fr with mode:=.returning,roundOf:=none }) (.refl hr) ⟨h1.todo,h1.defers,.inr rfl,h1.kind⟩ h2
 | some l =>
  simp only [hro,Sem.runT_eq,Hy] at ha hB ⊢
  refine Lc (k:=fun r=>match r with
   | .ok v w=>doReturn P true fr (frs ++ cw) none v w
   | .halt _ w=>.ended (.stuck "range over a function: no such loop" (fr.pos P)) w)
   (k':=fun r=>match r with
   | .ok v w=>doReturn (strip P F) true fr (frs ++ [trap F.size]) none v w
   | .halt _ w=>.ended (.stuck "range over a function: no such loop" (fr.pos (strip P F))) w)
   (Zk l jump (fun c hc=>(H.ok c).2 (hj c hc))) hr ?_ ha hB (fun a w' v' ho _ _ _=>Jg ho h1.kind h2 a) (fun h v' _=>trivial)
  cases (Instr.endRound l jump).run P w with
  | ok a w'=>simp only [O1,wOf]; exact .refl _
  | halt h w'=>exact .refl _
theorem Pm {Q : Program} {f : FuncId} {t : Array Value} {p : Array Tmp} {a b : Code} {o : Option Nat} {u u' : World} {l : Nat} {m : List Deferred} (h : (Instr.enterLoop f t p a b o).run Q u = .ok (l,m) u') :
  ∀ d ∈ m,∃ r,d = { target:=.collected r,args:=#[] }:=by
 unfold Instr.enterLoop at h
 cases o with
 | some n =>
  dsimp only at h
  rw [Sem.run_bind] at h
  cases hl : (Instr.getLoop n).run Q u with
  | halt k w=>rw [hl] at h; cases h
  | ok x w =>
   rw [hl] at h
   cases h
   intro d hd
   cases hd
 | none =>
  cases h
  intro d hd
  simp only [List.mem_singleton] at hd
  exact ⟨_,hd⟩
theorem Sv {Q : Program} {l : Nat} {u u' : World} {c : Code} (hu : ∀ (b : Nat) (o : Obj),u.heap[b]? = some o -> Hl Z o) (h : (Instr.endLoop l).run Q u = .ok (some c) u') : Z.ok c:=by
 unfold Instr.endLoop Instr.getLoop at h
 rw [bind_assoc] at h
 cases hl : u.heap[l]? with
 | none=>simp [Go.getObj,bind,Sem.bind,Sem.run,hl] at h
 | some o =>
  have hf:=hu l o hl
  cases o <;> first
   | (simp [Go.getObj,bind,Sem.bind,Sem.run,hl,stuck] at h; done)
   | (rename_i r
      simp only [Go.getObj,bind,Sem.bind,Sem.run,hl,pure] at h
      split at h
      ·cases h
      ·simp only [setObj,Sem.bind,Sem.run,hl] at h
       simp only [Result.ok.injEq] at h
       exact hf.2.2 c h.1)
theorem Gx {Q : Program} {l : Nat} {u u' : World} {c : List Deferred} (hu : ∀ (b : Nat) (o : Obj),u.heap[b]? = some o -> Hl Z o) (h : (Instr.takeDeferred l).run Q u = .ok c u') : c = []:=by
 unfold Instr.takeDeferred at h
 cases hl : u.heap[l]? with
 | none=>simp [Go.getObj,bind,Sem.bind,Sem.run,hl] at h
 | some o =>
  have hf:=hu l o hl
  cases o <;> first
   | (simp [Go.getObj,bind,Sem.bind,Sem.run,hl,stuck] at h; done)
   | (rename_i r
      rcases hf with rfl | rfl
      ·simp only [Go.getObj,bind,Sem.bind,Sem.run,hl,setObj,pure,Result.ok.injEq] at h
       exact h.1.symm
      ·simp [Go.getObj,bind,Sem.bind,Sem.run,hl,stuck] at h)
theorem Af2 (H : Fair P F Z) {fr : Frame} {frs : List Frame} (h1 : TameF P fr) (_hm : fr.mode = .run) (h2 : ∀ f ∈ frs,TameF P f) (hr : Rel Z w v)
  (ha : Agree w v (gw (stepG.exec P true true fr (frs ++ cw) none w)).drawn) (hB : (gw (stepG.exec P true true fr (frs ++ cw) none w)).heap.size <= B) :
  Live P F Z cw w v B (stepG.exec P true true fr (frs ++ cw) none w) (stepG.exec (strip P F) true true fr (frs ++ [trap F.size]) none v):=by
 have to : ∀ k : List Item,(∀ x ∈ k,Dc P x = true) -> Live P F Z cw w v B (.go { frame:={ fr with todo:=k },callers:=frs ++ cw,status:=.running,dying:=none } w) (.go { frame:={ fr with todo:=k },callers:=frs ++ [trap F.size],status:=.running,dying:=none } v) :=
  fun k hk=>Gc (.refl hr) ⟨hk,h1.defers,h1.mode,h1.kind⟩ h2
 have ht:=h1.todo
 cases htd : fr.todo with
 | nil =>
  have E : ∀ (p : Program) (cs : List Frame) (u : World),stepG.exec p true true fr cs none u = Ij p fr cs none u:=by
   intro p cs u
   unfold stepG.exec Ij
   simp only [htd]
   rfl
  rw [E] at ha hB ⊢
  rw [E]
  exact Iu H h1 h2 hr (jump:=none) (fun c hc=>by cases hc) ha hB
 | cons x k =>
  rw [htd] at ht
  have hk : ∀ y ∈ k,Dc P y = true:=fun y hy=>ht y (by simp [hy])
  have hx:=ht x (by simp)
  have hcons : ∀ (a : Item) (l : List Item),Dc P a = true -> (∀ y ∈ l,Dc P y = true) -> ∀ y ∈ a :: l,Dc P y = true:=fun a l p q y hy=>by
   rcases List.mem_cons.1 hy with rfl | hy
   ·exact p
   ·exact q y hy
  cases x with
  | code c =>
   simp only [Dc] at hx
   cases c with
   | ret =>
    have E : ∀ (p : Program) (cs : List Frame) (u : World),stepG.exec p true true fr cs none u = Ij p fr cs (some .ret) u:=by
     intro p cs u
     unfold stepG.exec Ij
     simp only [htd]
     rfl
    rw [E] at ha hB ⊢
    rw [E]
    exact Iu H h1 h2 hr (jump:=some .ret) (fun c hc=>by cases hc; rfl) ha hB
   | skip=>unfold stepG.exec; simp only [htd]; exact to k hk
   | label l=>unfold stepG.exec; simp only [htd]; exact to k hk
   | seq a b =>
    simp only [Br,Bool.and_eq_true] at hx
    unfold stepG.exec; simp only [htd]
    exact to _ (hcons _ _ hx.1 (hcons _ _ hx.2 hk))
   | cond c a b =>
    simp only [Br,Bool.and_eq_true] at hx
    unfold stepG.exec; simp only [htd]
    cases fr.eval c with
    | bool t=>exact to _ (hcons _ _ (by cases t <;> simp [Dc,hx]) hk)
    | _=>exact .inl True.intro
   | block id b=>unfold stepG.exec; simp only [htd]; exact to _ (hcons _ _ hx (hcons _ _ rfl hk))
   | loop b=>unfold stepG.exec; simp only [htd]; exact to _ (hcons _ _ hx (hcons _ _ hx hk))
   | scope b=>unfold stepG.exec; simp only [htd]; exact to _ (hcons _ _ hx (hcons _ _ hx hk))
   | exit id =>
    unfold stepG.exec at ha hB ⊢; simp only [htd] at ha hB ⊢
    cases he : exitTo id k with
    | none =>
     rw [he] at ha hB
     exact Iu H h1 h2 hr (jump:=some (.exit id)) (fun c hc=>by cases hc; rfl) ha hB
    | some k'=>exact to k' (Nv hk he)
   | goto l =>
    unfold stepG.exec at ha hB ⊢; simp only [htd] at ha hB ⊢
    cases he : gotoIn l k with
    | none =>
     rw [he] at ha hB
     exact Iu H h1 h2 hr (jump:=some (.goto l)) (fun c hc=>by cases hc; rfl) ha hB
    | some k'=>exact to k' (Nt hk he)
   | refuse s=>unfold stepG.exec; simp only [htd]; exact .inl True.intro
   | region id ops draw =>
    unfold stepG.exec at ha hB ⊢; simp only [htd] at ha hB ⊢
    cases draw with
    | false=>exact to _ (hcons _ _ hx hk)
    | true =>
     simp only [Bool.not_true,Bool.false_eq_true,if_false] at ha hB ⊢
     have hu:=Ec P (choose (.order fr.fn id)) w
     have hl:=(Jz (P:=P) (F:=F) (Z:=Z) (.order fr.fn id)).ok w v #[] B hr clean_nil
     revert ha hB hl hu
     cases (choose (.order fr.fn id)).run P w with
     | halt h w' =>
      intro ha hB hu hl
      rcases hl ha hB with hb | ⟨hal,_⟩
      ·revert hb
       cases (choose (.order fr.fn id)).run (strip P F) v with
       | ok a v'=>exact fun h=>h.elim
       | halt h v'=>exact fun _=>.inl True.intro
      ·revert hal
       cases (choose (.order fr.fn id)).run (strip P F) v with
       | ok a v'=>exact fun h=>h.elim
       | halt h v'=>exact fun _=>.inl True.intro
     | ok t w' =>
      intro ha hB hu hl
      rcases hl ha hB with hb | ⟨hal,_⟩
      ·revert hb
       cases (choose (.order fr.fn id)).run (strip P F) v with
       | ok a v'=>exact fun h=>h.elim
       | halt h v'=>exact fun _=>.inl True.intro
      ·revert hal
       cases (choose (.order fr.fn id)).run (strip P F) v with
       | halt h v'=>exact fun h=>h.elim
       | ok a v' =>
        rintro ⟨rfl,ho⟩
        exact Gc (fr:={ fr with todo:=.inRegion ops (Region.schedule (P.follows .mixedOrders) ops t) :: k }) ho ⟨hcons _ _ hx hk,h1.defers,h1.mode,h1.kind⟩ h2
   | rangeFunc f p a b =>
    simp only [Br,Bool.and_eq_true] at hx
    unfold stepG.exec at ha hB ⊢; simp only [htd,Sem.runT_eq,Hy] at ha hB ⊢
    refine Lc (k:=fun r=>match r with
     | .ok (l,mark) w=>stepG.apply P true { fr with todo:=.inRangeFunc l :: k,defers:=mark ++ fr.defers } (frs ++ cw) none (do let d <- resolve (Frame.eval { fr with todo:=.inRangeFunc l :: k,defers:=mark ++ fr.defers }) { callee:=.value f,args:=#[.const (.func (.yield l) #[] #[])],argTypes:=#[] } 0; invoke d.target d.args) w
     | .halt _ w=>.ended (.stuck "range over a function: no such loop" (fr.pos P)) w)
     (k':=fun r=>match r with
     | .ok (l,mark) w=>stepG.apply (strip P F) true { fr with todo:=.inRangeFunc l :: k,defers:=mark ++ fr.defers } (frs ++ [trap F.size]) none (do let d <- resolve (Frame.eval { fr with todo:=.inRangeFunc l :: k,defers:=mark ++ fr.defers }) { callee:=.value f,args:=#[.const (.func (.yield l) #[] #[])],argTypes:=#[] } 0; invoke d.target d.args) w
     | .halt _ w=>.ended (.stuck "range over a function: no such loop" (fr.pos (strip P F))) w)
     (Wv fr.fn fr.tmps p a b fr.roundOf ((H.ok a).2 hx.1) ((H.ok b).2 hx.2)) hr ?_ ha hB (fun lm w' v' ho he ha' hB'=>?_) (fun h v' _=>True.intro)
    ·cases (Instr.enterLoop fr.fn fr.tmps p a b fr.roundOf).run P w with
     | ok lm w'=>exact (Ec P _ w').trans (Yu P _ _ _ w')
     | halt h w'=>exact .refl _
    ·obtain ⟨l,m⟩:=lm
     have hmk:=Pm he
     refine Live.on ho (K5 ?_ ?_ H ⟨hcons _ _ rfl hk,fun d hd=>?_,h1.mode,h1.kind⟩ h2 ho.rel ha' hB')
     ·unfold resolve
      dsimp only
      unfold Deferred.ofValue
      split
      ·simp only [pure_bind]; exact H8 H (t:=_) (by exact True.intro) _
      ·simp only [pure_bind]; exact H8 H (t:=_) (by exact True.intro) _
      ·exact Ap _
     ·unfold resolve
      dsimp only
      unfold Deferred.ofValue
      split
      ·simp only [pure_bind]; exact Fa H (t:=_) (by exact True.intro) _
      ·simp only [pure_bind]; exact Fa H (t:=_) (by exact True.intro) _
      ·exact (Ep _).t
     ·rcases List.mem_append.1 hd with hd | hd
      ·exact hmk d hd
      ·exact h1.defers d hd
  | inBlock id=>unfold stepG.exec; simp only [htd]; exact to k hk
  | inLoop b=>unfold stepG.exec; simp only [htd]; exact to _ (hcons _ _ hx (hcons _ _ hx hk))
  | inScope b=>unfold stepG.exec; simp only [htd]; exact to k hk
  | inRangeFunc l=>unfold stepG.exec; simp only [htd]; exact .inl True.intro
  | beginRound =>
   unfold stepG.exec at ha hB ⊢; simp only [htd] at ha hB ⊢
   refine K5 ?_ ?_ H h1 h2 hr ha hB
   ·cases fr.roundOf with
    | none=>exact Ao (Ap _) (fun _=>Aq _)
    | some l=>exact Ao (Sq l) (fun _=>Aq _)
   ·exact (Dj (C:=Em P F Z) fun _=>Dy (C:=Em P F Z) (a:=Next.skip) trivial).t
  | endRangeFunc l =>
   unfold stepG.exec at ha hB ⊢; simp only [htd,Sem.runT_eq,Hy] at ha hB ⊢
   refine Lc (k:=fun r=>match r with
    | .ok jump w=>.go { frame:={ fr with todo:=(jump.map Item.code).toList ++ k },callers:=frs ++ cw,status:=.running,dying:=none } w
    | .halt (.panic v) w=>.go { frame:=fr.raise [{ v,recovered:=false }],callers:=frs ++ cw,status:=.running,dying:=none } w
    | .halt _ w=>.ended (.stuck "range over a function: no such loop" (fr.pos P)) w)
    (k':=fun r=>match r with
    | .ok jump w=>.go { frame:={ fr with todo:=(jump.map Item.code).toList ++ k },callers:=frs ++ [trap F.size],status:=.running,dying:=none } w
    | .halt (.panic v) w=>.go { frame:=fr.raise [{ v,recovered:=false }],callers:=frs ++ [trap F.size],status:=.running,dying:=none } w
    | .halt _ w=>.ended (.stuck "range over a function: no such loop" (fr.pos (strip P F))) w)
    (Abs l) hr ?_ ha hB (fun j w' v' ho he _ _=>?_) (fun h v' hh=>?_)
   ·cases (Instr.endLoop l).run P w with
    | ok j w'=>exact .refl _
    | halt h w'=>cases h <;> exact .refl _
   ·refine Gc ho ⟨fun y hy=>?_,h1.defers,h1.mode,h1.kind⟩ h2
    rcases List.mem_append.1 hy with hy | hy
    ·cases j with
     | none=>cases hy
     | some c =>
      simp only [Option.map_some,Option.toList_some,List.mem_singleton] at hy
      subst hy
      exact (H.ok c).1 (Sv hr.code he)
    ·exact hk y hy
   ·cases h <;> first
     | exact True.intro
     | (rcases hh with hh | ⟨_,hv⟩
        ·exact hh.elim
        ·exact Ku h1 h2 hv _ _)
  | inRegion ops is =>
   cases is with
   | nil=>unfold stepG.exec; simp only [htd]; exact to k hk
   | cons i rest =>
    unfold stepG.exec at ha hB ⊢; simp only [htd] at ha hB ⊢
    split
    ·rename_i hw
     rw [if_pos hw] at ha hB
     unfold stepG.oper at ha hB ⊢
     have ho : fr.oper? = ops[i]?:=by simp [Frame.oper?,htd]
     rw [ho] at ha hB ⊢
     cases hi : ops[i]? with
     | none=>exact .inl True.intro
     | some o =>
      have hop:=Aes (P:=P) hx hi
      rw [hi] at ha hB
      have e1 : ∀ (p : Program) (cs : List Frame) (u : World),(match fr.roundOf,o.op with
       | some l,.defer c=>stepG.apply p true fr cs none (do Instr.deferInRound l (<- resolve fr.eval c o.type); pure .skip) u
       | _,_=>stepG.apply p true fr cs none (execOp fr.eval o) u) = stepG.apply p true fr cs none (execOp fr.eval o) u:=by
       intro p cs u
       split
       ·rename_i heq; rw [heq] at hop; cases hop
       ·rfl
      dsimp only at ha hB ⊢
      have ha' : Agree w v (gw (stepG.apply P true fr (frs ++ cw) none (execOp fr.eval o) w)).drawn:=by rw [<- e1]; exact ha
      have hB' : (gw (stepG.apply P true fr (frs ++ cw) none (execOp fr.eval o) w)).heap.size <= B:=by rw [<- e1]; exact hB
      by_cases hp : ∃ x,o.op = .panic x
      ·obtain ⟨x,hp⟩:=hp
       have g2:=e1 (strip P F) (frs ++ [trap F.size]) v
       refine .inl ?_
       have:=Aa6 (F:=F) (Z:=Z) (v:=v) h1 h2 hr.code hp
       rw [<- g2] at this
       exact this
      have hp' : ∀ x,o.op ≠ .panic x:=fun x hx=>hp ⟨x,hx⟩
      have:=K5 (Alq H fr.eval o hop hp') (Ab7 H fr.eval o hop hp') H h1 h2 hr ha' hB'
      have g1:=e1 P (frs ++ cw) w
      have g2:=e1 (strip P F) (frs ++ [trap F.size]) v
      rw [<- g1,<- g2] at this
      exact this
    ·exact Gc (.refl hr) (h1.finish ud) h2
  | call d b r s=>cases hx
  | extern r s=>cases hx
theorem Yx (H : Fair P F Z) {fr : Frame} {frs : List Frame} (h1 : TameF P fr) (hm : fr.mode = .returning) (h2 : ∀ f ∈ frs,TameF P f) (hr : Rel Z w v)
  (ha : Agree w v (gw (unwind P true fr (frs ++ cw) none w)).drawn) (hB : (gw (unwind P true fr (frs ++ cw) none w)).heap.size <= B) :
  Live P F Z cw w v B (unwind P true fr (frs ++ cw) none w) (unwind (strip P F) true fr (frs ++ [trap F.size]) none v):=by
 unfold unwind at ha hB ⊢
 cases hd : fr.defers with
 | cons d ds =>
  obtain ⟨b,rfl⟩:=h1.defers d (by rw [hd]; simp)
  simp only [hd,Sem.runT_eq,Hy] at ha hB ⊢
  refine Lc (k:=fun r=>match r with
   | .ok calls w=>.go { frame:={ fr with defers:=calls ++ ds },callers:=frs ++ cw,status:=.running,dying:=none } w
   | .halt _ w=>.ended (.stuck "the deferred calls of a range-over-func loop have been taken" (fr.pos P)) w)
   (k':=fun r=>match r with
   | .ok calls w=>.go { frame:={ fr with defers:=calls ++ ds },callers:=frs ++ [trap F.size],status:=.running,dying:=none } w
   | .halt _ w=>.ended (.stuck "the deferred calls of a range-over-func loop have been taken" (fr.pos (strip P F))) w)
   (Ph b) hr ?_ ha hB (fun c w' v' ho he _ _=>?_) (fun h v' _=>True.intro)
  ·cases (Instr.takeDeferred b).run P w <;> exact .refl _
  ·have hc:=Gx hr.code he
   subst hc
   exact Gc ho ⟨h1.todo,fun x hx=>h1.defers x (by rw [hd]; exact List.mem_cons_of_mem _ hx),h1.mode,h1.kind⟩ h2
 | nil =>
  simp only [hd,hm] at ha hB ⊢
  cases hf : F[fr.fn]? with
  | none =>
   have e : P.funcs[fr.fn]? = none:=by
    have:=H.res fr.fn
    rw [hf] at this
    cases h : P.funcs[fr.fn]? with
    | none=>rfl
    | some x=>rw [h] at this; cases this
   rw [e] at ha hB ⊢
   exact Jg (.refl hr) h1.kind h2 _
  | some fn =>
   have e : ∃ gn,P.funcs[fr.fn]? = some gn /\ results gn fr.tmps = results fn fr.tmps:=by
    have:=H.res fr.fn
    rw [hf] at this
    cases h : P.funcs[fr.fn]? with
    | none=>rw [h] at this; cases this
    | some x =>
     rw [h] at this
     simp only [Option.map_some,Option.some.injEq] at this
     exact ⟨x,rfl,by unfold results; rw [this]⟩
   obtain ⟨gn,e,er⟩:=e
   rw [e] at ha hB ⊢
   simp only [er] at ha hB ⊢
   simp only [Sem.runT_eq,Hy] at ha hB ⊢
   refine Lc (k:=fun r=>match r with
    | .ok a w=>doReturn P true fr (frs ++ cw) none a w
    | .halt (.stuck s) w=>.ended (.stuck s (fr.pos P)) w
    | .halt _ w=>.ended (.stuck "return: the result variables cannot be read" (fr.pos P)) w)
    (k':=fun r=>match r with
    | .ok a w=>doReturn (strip P F) true fr (frs ++ [trap F.size]) none a w
    | .halt (.stuck s) w=>.ended (.stuck s (fr.pos (strip P F))) w
    | .halt _ w=>.ended (.stuck "return: the result variables cannot be read" (fr.pos (strip P F))) w)
    (Abd fn fr.tmps) hr ?_ ha hB (fun a w' v' ho _ _ _=>Jg ho h1.kind h2 a) (fun h v' _=>by cases h <;> exact True.intro)
   cases (results fn fr.tmps).run P w with
   | ok a w'=>simp only [O1,wOf]; exact .refl _
   | halt h w'=>cases h <;> exact .refl _
end
end Go.Lift
namespace Go.Lift
open Go.Conc (G AtRel)
variable {P : Program} {F : Array Func} {Z : Veil}
theorem Ad9 (H : Fair P F Z) {cw : List Frame} {w v : World} {B : Nat} {fr : Frame} {frs : List Frame} (h1 : TameF P fr) (h2 : ∀ f ∈ frs,TameF P f) (hr : Rel Z w v)
  (ha : Agree w v (gw (stepG P true (G fr (frs ++ cw)) w)).drawn) (hB : (gw (stepG P true (G fr (frs ++ cw)) w)).heap.size <= B) :
  Live P F Z cw w v B (stepG P true (G fr (frs ++ cw)) w) (stepG (strip P F) true (G fr (frs ++ [trap F.size])) v):=by
 rcases h1.mode with hm | hm
 ·have e : ∀ (p : Program) (cs : List Frame) (u : World),stepG p true (G fr cs) u = stepG.exec p true true fr cs none u:=by
   intro p cs u; simp only [stepG,G,hm]
  rw [e] at ha hB
  rw [e,e]
  exact Af2 H h1 hm h2 hr ha hB
 ·have e : ∀ (p : Program) (cs : List Frame) (u : World),stepG p true (G fr cs) u = unwind p true fr cs none u:=by
   intro p cs u; simp only [stepG,G,hm]
  rw [e] at ha hB
  rw [e,e]
  exact Yx H h1 hm h2 hr ha hB
theorem Aoc : (Extern.next "fmt's door, shut").isNone = true:=by decide
theorem Al2 : "fmt's door, shut".startsWith "fmt's door" = true:=by simp
theorem Af1 {Q : Program} {l : Nat} {u u' : World} {c : List Deferred} (hu : Ht Z u) (h : (Instr.takeDeferred l).run Q u = .ok c u') : Ht Z u':=by
 unfold Instr.takeDeferred at h
 cases hl : u.heap[l]? with
 | none=>simp [Go.getObj,bind,Sem.bind,Sem.run,hl] at h
 | some o =>
  have hf:=hu l o hl
  cases o <;> first
   | (simp [Go.getObj,bind,Sem.bind,Sem.run,hl,stuck] at h; done)
   | (rename_i r
      rcases hf with rfl | rfl
      ·simp only [Go.getObj,bind,Sem.bind,Sem.run,hl,setObj,pure,Result.ok.injEq] at h
       obtain ⟨_,rfl⟩:=h
       intro b o ho
       simp only [Array.getElem?_setIfInBounds] at ho
       split at ho
       ·split at ho
        ·cases ho; exact .inr rfl
        ·cases ho
       ·exact hu b o ho
      ·simp [Go.getObj,bind,Sem.bind,Sem.run,hl,stuck] at h)
theorem Ali {b : Bool} {x y : GStep} (hb : b = true) (hx : LostS F Z x) : LostS F Z (if b = true then x else y):=by
 rw [if_pos hb]; exact hx
theorem Aga {g : Goroutine} {v : World} (h : DeadG F g) (hv : Ht Z v) : LostS F Z (stepG (strip P F) true g v):=by
 cases h with
 | @raised fr frs chain hm hd hs =>
  simp only [stepG,G,hm]
  unfold unwind
  cases hdf : fr.defers with
  | cons d ds =>
   obtain ⟨b,rfl⟩:=hd d (by rw [hdf]; simp)
   simp only [Sem.runT_eq]
   refine LostS.after ?_ _
   cases ht : (Instr.takeDeferred b).run (strip P F) v with
   | halt k v'=>exact True.intro
   | ok c v' =>
    have hc:=Gx (Z:=Z) hv ht
    subst hc
    exact ⟨.raised (fr:={ fr with defers:=ds }) hm (fun x hx=>hd x (by rw [hdf]; exact List.mem_cons_of_mem _ hx)) hs,Af1 hv ht⟩
  | nil =>
   simp only [hm]
   split
   ·exact True.intro
   ·cases frs with
    | nil=>exact ⟨.caught,hv⟩
    | cons c rest =>
     refine ⟨?_,hv⟩
     have : ∃ c',(c.raise chain).mode = .panicking c':=by
      unfold Frame.raise
      split <;> exact ⟨_,rfl⟩
     obtain ⟨c',hc⟩:=this
     refine .raised (fr:=c.raise chain) (frs:=rest) hc (fun d hdd=>hs c (by simp) d ?_) (fun f hf=>hs f (by simp [hf]))
     unfold Frame.raise at hdd
     split at hdd <;> exact hdd
 | caught =>
  exact Ali (b:=Frame.catches (strip P F) { trap F.size with mode:=.panicking ‹_› }) (by simp [Frame.catches,trap,Al2]) True.intro
 | popped =>
  have hn : Extern.next "fmt's door, shut" = none:=by simpa using Aoc
  simp only [stepG,G,stepG.exec,trap,Frame.finish,hn,Option.elim]
  exact True.intro
/-! the lone run -/
def Acl (g : Goroutine) (v : World) : Machine:={ world:=v,gs:=#[g],rest:={ timers:=#[],alone:=none,slice:=none } }
theorem La (fr : Frame) (cs : List Frame) (v : World) : lone fr cs v = Acl (G fr cs) v:=rfl
theorem DeadG.form {g : Goroutine} (h : DeadG F g) : ∃ fr cs,g = G fr cs:=by
 cases h <;> exact ⟨_,_,rfl⟩
theorem Ajy {g : Goroutine} {v : World} (h : DeadG F g) (hv : Ht Z v) : ∀ (n : Nat) (m : Machine),runN (strip P F) n (Acl g v) = .next m -> ∃ g' v',m = Acl g' v' /\ DeadG F g':=by
 intro n
 induction n generalizing g v with
 | zero=>intro m hm; cases hm; exact ⟨g,v,rfl,h⟩
 | succ n ih =>
  intro m hm
  obtain ⟨fr,cs,rfl⟩:=h.form
  have hs:=Aga (P:=P) (Z:=Z) h hv
  revert hs
  cases hst : stepG (strip P F) true (G fr cs) v with
  | ended o v' es =>
   intro _
   have:=step_lone_ended (P:=strip P F) (fr:=fr) (cs:=cs) (w:=v) (w':=v') (o:=o) (by
    show (stepG (strip P F) true (G fr cs) v).bare = _
    rw [hst]; rfl)
   rw [La] at this
   simp only [runN,this] at hm
   cases hm
  | go g' v' es =>
   rintro ⟨hd,hf⟩
   obtain ⟨fr',cs',rfl⟩:=hd.form
   have:=step_lone_go (P:=strip P F) (fr:=fr) (cs:=cs) (w:=v) (w':=v') (fr':=fr') (cs':=cs') (by
    show (stepG (strip P F) true (G fr cs) v).bare = _
    rw [hst]; rfl)
   rw [La,La] at this
   simp only [runN,this] at hm
   exact ih hd hf m hm
  | _=>exact fun h=>h.elim
theorem Sr {fr : Frame} {frs : List Frame} (h1 : TameF P fr) (h : DeadG F (G fr (frs ++ [trap F.size]))) : False:=by
 generalize hg : G fr (frs ++ [trap F.size]) = g at h
 cases h with
 | raised hm _ _ =>
  simp only [G,Goroutine.mk.injEq] at hg
  rw [<- hg.1] at hm
  rcases h1.mode with h | h <;> rw [h] at hm <;> cases hm
 | caught=>simp [G] at hg
 | popped=>simp [G] at hg
theorem Aev (H : Fair P F Z) {cw : List Frame} {w v : World} {fr fr₁ : Frame} {frs frs₁ : List Frame} {v₁ : World} (h1 : TameF P fr) (h2 : ∀ f ∈ frs,TameF P f) (hr : Rel Z w v)
  (ha : Agree w v (gw (stepG P true (G fr (frs ++ cw)) w)).drawn) {n : Nat} (hn : runN (strip P F) (n + 1) (lone fr (frs ++ [trap F.size]) v) = .next (lone fr₁ (frs₁ ++ [trap F.size]) v₁)) (h3 : TameF P fr₁) :
  ∃ fr' frs' w' v' es,stepG P true (G fr (frs ++ cw)) w = .go (G fr' (frs' ++ cw)) w' es /\ TameF P fr' /\ (∀ f ∈ frs',TameF P f) /\ On Z w v w' v' /\ Cg Z w'.heap.size es /\
   runN (strip P F) n (lone fr' (frs' ++ [trap F.size]) v') = .next (lone fr₁ (frs₁ ++ [trap F.size]) v₁):=by
 have hl:=Ad9 H h1 h2 hr ha (Nat.le_refl _)
 rcases hl with hl | ⟨fr',frs',w',v',es,hy,hx,t1,t2,ho,hc⟩
 ·exfalso
  revert hl
  cases hst : stepG (strip P F) true (G fr (frs ++ [trap F.size])) v with
  | ended o v' es =>
   intro _
   have:=step_lone_ended (P:=strip P F) (fr:=fr) (cs:=frs ++ [trap F.size]) (w:=v) (w':=v') (o:=o) (by
    show (stepG (strip P F) true (G fr (frs ++ [trap F.size])) v).bare = _
    rw [hst]; rfl)
   simp only [runN,this] at hn
   cases hn
  | go g' v' es =>
   rintro ⟨hd,hf⟩
   obtain ⟨fr',cs',rfl⟩:=hd.form
   have:=step_lone_go (P:=strip P F) (fr:=fr) (cs:=frs ++ [trap F.size]) (w:=v) (w':=v') (fr':=fr') (cs':=cs') (by
    show (stepG (strip P F) true (G fr (frs ++ [trap F.size])) v).bare = _
    rw [hst]; rfl)
   simp only [runN,this] at hn
   rw [La,La] at hn
   obtain ⟨g'',v'',he,hd'⟩:=Ajy (P:=P) (Z:=Z) hd hf n _ hn
   have : g'' = G fr₁ (frs₁ ++ [trap F.size]):=by
    have:=congrArg Machine.gs he
    simpa [Acl] using this.symm
   subst this
   exact Sr h3 hd'
  | _=>exact fun h=>h.elim
 ·have hs:=step_lone_go (P:=strip P F) (fr:=fr) (cs:=frs ++ [trap F.size]) (w:=v) (w':=v') (fr':=fr') (cs':=frs' ++ [trap F.size]) hx
  simp only [runN,hs] at hn
  rw [hy] at hc
  exact ⟨fr',frs',w',v',es,hy,t1,t2,ho,hc,hn⟩
end Go.Lift
