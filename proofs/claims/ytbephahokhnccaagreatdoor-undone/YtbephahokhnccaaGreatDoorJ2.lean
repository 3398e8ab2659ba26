import Derived.Conc.Beside
import Derived.Test.YtbephahokhnccaaGreatDoorProg
import Derived.Test.YtbephahokhnccaaGreatDoorJ1
set_option linter.all false
namespace Go.Lift
variable{es:aA}{F:yg}{gs:Array K2}{fr:Frame}{f fn:FuncId}{g a:K2}{c:List Deferred}{frs cw:eX}{m:Machine}{B n l:Nat}{q:Nat->Nat}{sl:Option (Nat×Nat)}{P Q:K5}{z:Sem vZ}{pos:String}{t:Trace}{v w u u':WR}
section
open Go.Conc (G mem_seen)
def YZ{d:Type}(w:WR)(k:Ask d):(w.ask k).2.heap=w.heap:=by
 induction k generalizing w with
 |done a=>rfl
 |ask b range k c=>
  unfold World.ask;dsimp only;split
  .exact c _ w
  .exact c _ _
def ZC(w:WR)(c:Sys):(w.sys c).2.heap=w.heap:=by
 have h:=YZ w (Kernel.perform c w.os);unfold World.sys;split
 .rfl
 .rename_i e;rw[e] at h;exact h
def ZD{Z:dX}(a:lQ Z v):∃h c,(runtimePanic .panicNil:Sem vZ).run Q v=.halt h c/\lQ Z c/\((∃p,h=.panic p)\/∃s,h=.stuck s):=by
 unfold runtimePanic elemOf Go.underlying;simp only[Sem.run_bind,run_program,Result.andThen_ok];cases Q.underlying Q.rt.panicNilError with
 |none=>exact⟨_,v,rfl,a,.inr ⟨_,rfl⟩⟩
 |some d=>
  cases d with
  |pointer e=>
   refine⟨_,_,rfl,fun b o h=>?_,.inl ⟨_,rfl⟩⟩;simp only[aAV] at h;split at h
   .cases h;exact True.intro
   .exact a b o h
  |_=>exact⟨_,v,rfl,a,.inr ⟨_,rfl⟩⟩
def NP{Z:dX}(x:vZ)(c:lQ Z v):∃h d,(Instr.panic x).run Q v=.halt h d/\lQ Z d/\((∃p,h=.panic p)\/∃s,h=.stuck s):=by
 cases x with
 |iface t y=>exact⟨_,v,rfl,c,.inl ⟨_,rfl⟩⟩
 |nilIface=>
  have a:lQ Z (v.sys .env).2:=fun b o h=>c b o (by rw[<-ZC v .env];exact h);unfold Instr.panic Instr.panicnil;simp only[Sem.run_bind];have e:(Go.sys .env).run Q v=.ok (v.sys .env).1 (v.sys .env).2:=rfl;rw[e];generalize(v.sys .env).1=r;generalize(v.sys .env).2=u at a;simp only[Result.andThen_ok];cases r with
  |strings env=>
   simp only[Sem.run_bind,run_program,Result.andThen_ok,Sem.run_pure];split
   .exact⟨_,u,rfl,a,.inl ⟨_,rfl⟩⟩
   .exact ZD a
  |_=>exact⟨_,u,rfl,a,.inr ⟨_,rfl⟩⟩
 |_=>exact⟨_,v,rfl,c,.inr ⟨_,rfl⟩⟩
def NQ{Z:dX}{o:Oper}{x:Operand}(b:dK P fr)(g:∀f∈frs,dK P f)(e:lQ Z v)(d:o.op=.panic x):
  kO F Z (stepG.apply (strip P F) true fr (frs++[dJ F.size]) none (execOp fr.eval o) v):=by
 have⟨h,i,j,c,k⟩:=NP (Q:=strip P F) (fr.eval x) e;have a:(execOp fr.eval o).run (strip P F) v=.halt h i:=by unfold execOp;rw[d];simp only[Sem.run_bind,j];rfl
 unfold stepG.apply;simp only[Sem.runT_eq,if_true,b.kind,a];refine kO.after ?_ _;rcases k with⟨p,rfl⟩| ⟨s,rfl⟩
 .exact qK b g c _ _
 .exact True.intro
def rR{Z:dX}{n:Type}{s:Sem n}(A:Lk P F Z s)(z:Rel Z w v){k:Result n->GStep}{k':Result n->GStep}{p q:K5}{g:FuncId}(u:Up (tC (s.run P w)) (gw (k (s.run P w))))(i:fA w v (gw (k (s.run P w))).drawn)(j:(gw (k (s.run P w))).heap.size<=B)(o:∀a e d,On Z w v e d->s.run (strip P F) v=.ok a d->fA e d (gw (k (.ok a e))).drawn->(gw (k (.ok a e))).heap.size<=B->Live P F Z cw w v B (k (.ok a e)) (k' (.ok a d)))(m:∀h d,(yw h\/EK h/\lQ Z d)->kO F Z (k' (.halt h d))):
  Live P F Z cw w v B ((k (s.run P w)).after (seen p f (s.events P w #[]))) ((k' (s.run (strip P F) v)).after (seen q g (s.events (strip P F) v #[]))):=by
 have c:=A.ok w v #[] B z iI (i.less u.drawn) (aAw u.size j);revert c i j;cases C:s.run P w with
 |ok a e=>
  cases t:s.run (strip P F) v with
  |ok b d=>
   intro i j c;rcases c with c| ⟨⟨rfl,l⟩,r⟩
   .exact c.elim
   .exact(o a e d l t (i.on l) j).after (yA r _ _)
  |halt h d=>
   intro i j c;rcases c with c| ⟨c,_⟩
   .exact .inl ((m h d (.inl c)).after _)
   .exact c.elim
 |halt h e=>
  cases t:s.run (strip P F) v with
  |ok b d=>
   intro i j c;rcases c with c| ⟨c,_⟩
   .exact c.elim
   .exact c.elim
  |halt y d=>
   intro i j c;rcases c with c| ⟨⟨rfl,x,l⟩,_⟩
   .exact .inl ((m y d (.inl c)).after _)
   .exact .inl ((m h d (.inr ⟨x,l.rel.code⟩)).after _)
def mO(p:K5)(fr:Frame)(b:eX)(a:Option Code)(w:WR):GStep:=
 match fr.roundOf with
 |none=>if a matches none|some .ret then .go {frame:={fr with mode:=.returning},callers:=b,status:=.running,dying:=none} w else .ended (.stuck "exit, goto: no such block or label" (fr.pos p)) w
 |some l=>
  let(r,es):=(Instr.endRound l a).runT p w #[]
  GStep.after (seen p fr.fn es)<|match r with
  |.ok v w=>doReturn p true fr b none v w
  |.halt _ w=>.ended (.stuck "range over a function: no such loop" (fr.pos p)) w
def vJ(p:K5)(fr:Frame)(b:eX)(a:vZ)(w:WR):gw (doReturn p true fr b none a w)=w:=by
 unfold doReturn;repeat' split
 all_goals rfl
def mP{Z:dX}(H:Fair P F Z)(b:dK P fr)(d:∀f∈frs,dK P f)(g:Rel Z w v){jump:Option Code}(o:∀c,jump=some c->bQ P c=true)(i:fA w v (gw (mO P fr (frs++cw) jump w)).drawn)(j:(gw (mO P fr (frs++cw) jump w)).heap.size<=B):
  Live P F Z cw w v B (mO P fr (frs++cw) jump w) (mO (strip P F) fr (frs++[dJ F.size]) jump v):=by
 unfold mO at i j⊢;cases e:fr.roundOf with
 |none=>
  cases jump with
  |none=>exact jF (fr:={fr with mode:=.returning,roundOf:=none}) (.refl g) ⟨b.todo,b.defers,.inr rfl,b.kind⟩ d
  |some c=>
   cases c<;>first
    |exact .inl True.intro
    |exact jF (fr:={fr with mode:=.returning,roundOf:=none}) (.refl g) ⟨b.todo,b.defers,.inr rfl,b.kind⟩ d
 |some l=>
  simp only[e,Sem.runT_eq,lP] at i j⊢;refine rR (k:=fun r=>match r with
   |.ok v w=>doReturn P true fr (frs++cw) none v w
   |.halt _ w=>.ended (.stuck "range over a function: no such loop" (fr.pos P)) w)
   (k':=fun r=>match r with
   |.ok v w=>doReturn (strip P F) true fr (frs++[dJ F.size]) none v w
   |.halt _ w=>.ended (.stuck "range over a function: no such loop" (fr.pos (strip P F))) w)
   (IK l jump (fun c p=>(H.ok c).2 (o c p))) g ?_ i j (fun a k m n _ _ _=>nQ n b.kind d a) (fun h m _=>trivial)
  cases (Instr.endRound l jump).run P w with
  |ok a k=>simp only[vJ,tC];exact .refl _
  |halt h k=>exact .refl _
def wL{t:Ff}{p:Array Tmp}{a b:Code}{o:Option Nat}{m:List Deferred}(h:(Instr.enterLoop f t p a b o).run Q u=.ok (l,m) u'):
  ∀d∈m,∃r,d={target:=.collected r,args:=#[]}:=by
 unfold Instr.enterLoop at h;cases o with
 |some n=>
  dsimp only at h;rw[Sem.run_bind] at h;cases e:(Instr.getLoop n).run Q u with
  |halt k w=>rw[e] at h;cases h
  |ok x w=>
   rw[e] at h;cases h;intro d c;cases c
 |none=>
  cases h;intro d c;simp only[aAB] at c;exact⟨_,c⟩
def BD{Z:dX}{c:Code}(e:∀(b:Nat) (o:Obj),u.heap[b]?=some o->kF Z o)(h:(Instr.endLoop l).run Q u=.ok (some c) u'):Z.ok c:=by
  unfold Instr.endLoop Instr.getLoop at h;rw[bind_assoc] at h;cases a:u.heap[l]? with
  |none=>simp[Go.getObj,bind,Sem.bind,Sem.run,a] at h
  |some o=>
    have d:=e l o a;cases o<;>first
      | (simp[Go.getObj,bind,Sem.bind,Sem.run,a,stuck] at h;done)
      | (rename_i r
         simp only[Go.getObj,bind,Sem.bind,Sem.run,a,pure] at h;split at h
         · cases h
         · simp only[setObj,Sem.bind,Sem.run,a] at h
           simp only[Result.ok.injEq] at h;exact d.2.2 c h.1)
def jT{Z:dX}(e:∀(b:Nat) (o:Obj),u.heap[b]?=some o->kF Z o)(h:(Instr.takeDeferred l).run Q u=.ok c u'):c=[]:=by
  unfold Instr.takeDeferred at h;cases a:u.heap[l]? with
  |none=>simp[Go.getObj,bind,Sem.bind,Sem.run,a] at h
  |some o=>
    have d:=e l o a;cases o<;>first
      | (simp[Go.getObj,bind,Sem.bind,Sem.run,a,stuck] at h;done)
      | (rename_i r
         rcases d with rfl|rfl
         · simp only[Go.getObj,bind,Sem.bind,Sem.run,a,setObj,pure,Result.ok.injEq] at h
           exact h.1.symm
         · simp[Go.getObj,bind,Sem.bind,Sem.run,a,stuck] at h)
def UA{Z:dX}(H:Fair P F Z)(D:dK P fr)(_hm:fr.mode=.run)(K:∀f∈frs,dK P f)(L:Rel Z w v)(z:fA w v (gw (stepG.exec P true true fr (frs++cw) none w)).drawn)(n:(gw (stepG.exec P true true fr (frs++cw) none w)).heap.size<=B):
    Live P F Z cw w v B (stepG.exec P true true fr (frs++cw) none w) (stepG.exec (strip P F) true true fr (frs++[dJ F.size]) none v):=by
  have I:∀k:List Item,(∀x∈k,dY P x=true)->Live P F Z cw w v B (.go {frame:={fr with todo:=k},callers:=frs++cw,status:=.running,dying:=none} w) (.go {frame:={fr with todo:=k},callers:=frs++[dJ F.size],status:=.running,dying:=none} v):=
    fun k G=>jF (.refl L) ⟨G,D.defers,D.mode,D.kind⟩ K
  have ht:=D.todo;cases g:fr.todo with
  |nil=>
    have E:∀(p:K5) (M:eX) (u:WR),stepG.exec p true true fr M none u=mO p fr M none u:=by intro p M u;unfold stepG.exec mO;simp only[g];rfl
    rw[E] at z n⊢;rw[E];exact mP H D K L (jump:=none) (fun c V=>by cases V) z n
  |cons x k=>
    rw[g] at ht;have G:∀y∈k,dY P y=true:=fun y J=>ht y (by simp[J]);have A:=ht x sI;have e:∀(a:Item) (l:List Item),dY P a=true->(∀y∈l,dY P y=true)->∀y∈a::l,dY P y=true:=fun a l p q y J=>by
      rcases aAx.1 J with rfl|J
      · exact p
      · exact q y J
    cases x with
    |code c=>
      simp only[dY] at A;cases c with
      |ret=>
        have E:∀(p:K5) (M:eX) (u:WR),stepG.exec p true true fr M none u=mO p fr M (some .ret) u:=by intro p M u;unfold stepG.exec mO;simp only[g];rfl
        rw[E] at z n⊢;rw[E];exact mP H D K L (jump:=some .ret) (fun c V=>by cases V;rfl) z n
      |skip=>unfold stepG.exec;simp only[g];exact I k G
      |label l=>unfold stepG.exec;simp only[g];exact I k G
      |seq a b=>
        simp only[bQ,aBT] at A;unfold stepG.exec;simp only[g];exact I _ (e _ _ A.1 (e _ _ A.2 G))
      |cond c a b=>
        simp only[bQ,aBT] at A;unfold stepG.exec;simp only[g];cases fr.eval c with
        |bool t=>exact I _ (e _ _ (by cases t<;>simp[dY,A]) G)
        |_=>exact .inl True.intro
      |block id b=>unfold stepG.exec;simp only[g];exact I _ (e _ _ A (e _ _ rfl G))
      |loop b=>unfold stepG.exec;simp only[g];exact I _ (e _ _ A (e _ _ A G))
      |scope b=>unfold stepG.exec;simp only[g];exact I _ (e _ _ A (e _ _ A G))
      |exit id=>
        unfold stepG.exec at z n⊢;simp only[g] at z n⊢;cases Q:exitTo id k with
        |none=>
          rw[Q] at z n;exact mP H D K L (jump:=some (.exit id)) (fun c V=>by cases V;rfl) z n
        |some k'=>exact I k' (tW G Q)
      |goto l=>
        unfold stepG.exec at z n⊢;simp only[g] at z n⊢;cases Q:gotoIn l k with
        |none=>
          rw[Q] at z n;exact mP H D K L (jump:=some (.goto l)) (fun c V=>by cases V;rfl) z n
        |some k'=>exact I k' (tX G Q)
      |refuse s=>unfold stepG.exec;simp only[g];exact .inl True.intro
      |region id O a0=>
        unfold stepG.exec at z n⊢;simp only[g] at z n⊢;cases a0 with
        |false=>exact I _ (e _ _ A G)
        |true=>
          simp only[Bool.not_true,aBU,if_false] at z n⊢;have hu:=fT P (choose (.order fr.fn id)) w;have hl:=(oU (P:=P) (F:=F) (Z:=Z) (.order fr.fn id)).ok w v #[] B L iI;revert z n hl hu;cases (choose (.order fr.fn id)).run P w with
          |halt h R=>
            intro z n hu hl;rcases hl z n with hb| ⟨U,_⟩
            · revert hb
              cases (choose (.order fr.fn id)).run (strip P F) v with
              |ok a N=>exact fun h=>h.elim
              |halt h N=>exact fun _=>.inl True.intro
            · revert U
              cases (choose (.order fr.fn id)).run (strip P F) v with
              |ok a N=>exact fun h=>h.elim
              |halt h N=>exact fun _=>.inl True.intro
          |ok t R=>
            intro z n hu hl;rcases hl z n with hb| ⟨U,_⟩
            · revert hb
              cases (choose (.order fr.fn id)).run (strip P F) v with
              |ok a N=>exact fun h=>h.elim
              |halt h N=>exact fun _=>.inl True.intro
            · revert U
              cases (choose (.order fr.fn id)).run (strip P F) v with
              |halt h N=>exact fun h=>h.elim
              |ok a N=>
                rintro⟨rfl,T⟩;exact jF (fr:={fr with todo:=.inRegion O (Region.schedule (P.follows .mixedOrders) O t)::k}) T ⟨e _ _ A G,D.defers,D.mode,D.kind⟩ K
      |rangeFunc f p a b=>
        simp only[bQ,aBT] at A;unfold stepG.exec at z n⊢;simp only[g,Sem.runT_eq,lP] at z n⊢;refine rR (k:=fun r=>match r with
          |.ok (l,mark) w=>stepG.apply P true {fr with todo:=.inRangeFunc l::k,defers:=mark++fr.defers} (frs++cw) none (do let d<-resolve (Frame.eval {fr with todo:=.inRangeFunc l::k,defers:=mark++fr.defers}) {callee:=.value f,args:=#[.const (.func (.yield l) #[] #[])],argTypes:=#[]} 0;invoke d.target d.args) w
          |.halt _ w=>.ended (.stuck "range over a function: no such loop" (fr.pos P)) w)
          (k':=fun r=>match r with
          |.ok (l,mark) w=>stepG.apply (strip P F) true {fr with todo:=.inRangeFunc l::k,defers:=mark++fr.defers} (frs++[dJ F.size]) none (do let d<-resolve (Frame.eval {fr with todo:=.inRangeFunc l::k,defers:=mark++fr.defers}) {callee:=.value f,args:=#[.const (.func (.yield l) #[] #[])],argTypes:=#[]} 0;invoke d.target d.args) w
          |.halt _ w=>.ended (.stuck "range over a function: no such loop" (fr.pos (strip P F))) w)
          (FB fr.fn fr.tmps p a b fr.roundOf ((H.ok a).2 A.1) ((H.ok b).2 A.2)) L ?_ z n (fun lm R N T Q X W=>?_) (fun h N _=>True.intro)
        · cases (Instr.enterLoop fr.fn fr.tmps p a b fr.roundOf).run P w with
          |ok lm R=>exact(fT P _ R).tr (IM P _ _ _ R)
          |halt h R=>exact .refl _
        · have⟨l,m⟩:=lm
          have a1:=wL Q;refine Live.on T (qL ?_ ?_ H ⟨e _ _ rfl G,fun d hd=>?_,D.mode,D.kind⟩ K T.rel X W)
          · unfold resolve
            dsimp only;unfold Deferred.ofValue;split
            · simp only[pure_bind];exact lO H (t:=_) (by exact True.intro) _
            · simp only[pure_bind];exact lO H (t:=_) (by exact True.intro) _
            · exact aW _
          · unfold resolve
            dsimp only;unfold Deferred.ofValue;split
            · simp only[pure_bind];exact gS H (t:=_) (by exact True.intro) _
            · simp only[pure_bind];exact gS H (t:=_) (by exact True.intro) _
            · exact(gJ _).t
          · rcases aAL.1 hd with hd|hd
            · exact a1 d hd
            · exact D.defers d hd
    |inBlock id=>unfold stepG.exec;simp only[g];exact I k G
    |inLoop b=>unfold stepG.exec;simp only[g];exact I _ (e _ _ A (e _ _ A G))
    |inScope b=>unfold stepG.exec;simp only[g];exact I k G
    |inRangeFunc l=>unfold stepG.exec;simp only[g];exact .inl True.intro
    |beginRound=>
      unfold stepG.exec at z n⊢;simp only[g] at z n⊢;refine qL ?_ ?_ H D K L z n
      · cases fr.roundOf with
        |none=>exact aX (aW _) (fun _=>aY _)
        |some l=>exact aX (BC l) (fun _=>aY _)
      · exact(eN (C:=fZ P F Z) fun _=>fK (C:=fZ P F Z) (a:=Next.skip) trivial).t
    |endRangeFunc l=>
      unfold stepG.exec at z n⊢;simp only[g,Sem.runT_eq,lP] at z n⊢;refine rR (k:=fun r=>match r with
        |.ok C w=>.go {frame:={fr with todo:=(C.map Item.code).toList++k},callers:=frs++cw,status:=.running,dying:=none} w
        |.halt (.panic v) w=>.go {frame:=fr.raise [{v,recovered:=false}],callers:=frs++cw,status:=.running,dying:=none} w
        |.halt _ w=>.ended (.stuck "range over a function: no such loop" (fr.pos P)) w)
        (k':=fun r=>match r with
        |.ok C w=>.go {frame:={fr with todo:=(C.map Item.code).toList++k},callers:=frs++[dJ F.size],status:=.running,dying:=none} w
        |.halt (.panic v) w=>.go {frame:=fr.raise [{v,recovered:=false}],callers:=frs++[dJ F.size],status:=.running,dying:=none} w
        |.halt _ w=>.ended (.stuck "range over a function: no such loop" (fr.pos (strip P F))) w)
        (NN l) L ?_ z n (fun j R N T Q _ _=>?_) (fun h N hh=>?_)
      · cases (Instr.endLoop l).run P w with
        |ok j R=>exact .refl _
        |halt h R=>cases h<;>exact .refl _
      · refine jF T ⟨fun y J=>?_,D.defers,D.mode,D.kind⟩ K
        rcases aAL.1 J with J|J
        · cases j with
          |none=>cases J
          |some c=>
            simp only[aAX,Option.toList_some,aAB] at J;subst J;exact(H.ok c).1 (BD L.code Q)
        · exact G y J
      · cases h<;>first
          |exact True.intro
          | (rcases hh with hh| ⟨_,hv⟩
             · exact hh.elim
             · exact qK D K hv _ _)
    |inRegion O is=>
      cases is with
      |nil=>unfold stepG.exec;simp only[g];exact I k G
      |cons i a2=>
        unfold stepG.exec at z n⊢;simp only[g] at z n⊢;split
        · rename_i hw
          rw[if_pos hw] at z n;unfold stepG.oper at z n⊢;have T:fr.oper?=O[i]?:=by simp[Frame.oper?,g]
          rw[T] at z n⊢;cases hi:O[i]? with
          |none=>exact .inl True.intro
          |some o=>
            have S:=TX (P:=P) A hi;rw[hi] at z n;have e1:∀(p:K5) (M:eX) (u:WR),(match fr.roundOf,o.op with
              |some l,.defer c=>stepG.apply p true fr M none (do Instr.deferInRound l (<-resolve fr.eval c o.type);pure .skip) u
              |_,_=>stepG.apply p true fr M none (execOp fr.eval o) u)=stepG.apply p true fr M none (execOp fr.eval o) u:=by
              intro p M u;split
              · rename_i heq;rw[heq] at S;cases S
              · rfl
            dsimp only at z n⊢;have X:fA w v (gw (stepG.apply P true fr (frs++cw) none (execOp fr.eval o) w)).drawn:=by rw[<-e1];exact z
            have W:(gw (stepG.apply P true fr (frs++cw) none (execOp fr.eval o) w)).heap.size<=B:=by rw[<-e1];exact n
            by_cases hp:∃x,o.op=.panic x
            · have⟨x,hp⟩:=hp
              have g2:=e1 (strip P F) (frs++[dJ F.size]) v;refine .inl ?_;have:=NQ (F:=F) (Z:=Z) (v:=v) D K L.code hp;rw[<-g2] at this;exact this
            have Y:∀x,o.op≠.panic x:=fun x A=>hp ⟨x,A⟩;have:=qL (nv H fr.eval o S Y) (NL H fr.eval o S Y) H D K L X W;have g1:=e1 P (frs++cw) w;have g2:=e1 (strip P F) (frs++[dJ F.size]) v;rw[<-g1,<-g2] at this;exact this
        · exact jF (.refl L) (D.finish ud) K
    |call d b r s=>cases A
    |extern r s=>cases A
def IN{Z:dX}(H:Fair P F Z)(k:dK P fr)(C:fr.mode=.returning)(p:∀f∈frs,dK P f)(m:Rel Z w v)(i:fA w v (gw (unwind P true fr (frs++cw) none w)).drawn)(j:(gw (unwind P true fr (frs++cw) none w)).heap.size<=B):
  Live P F Z cw w v B (unwind P true fr (frs++cw) none w) (unwind (strip P F) true fr (frs++[dJ F.size]) none v):=by
 unfold unwind at i j⊢;cases l:fr.defers with
 |cons d u=>
  obtain⟨b,rfl⟩:=k.defers d (by rw[l];simp);simp only[l,Sem.runT_eq,lP] at i j⊢;refine rR (k:=fun r=>match r with
   |.ok g w=>.go {frame:={fr with defers:=g++u},callers:=frs++cw,status:=.running,dying:=none} w
   |.halt _ w=>.ended (.stuck "the deferred calls of a range-over-func loop have been taken" (fr.pos P)) w)
   (k':=fun r=>match r with
   |.ok g w=>.go {frame:={fr with defers:=g++u},callers:=frs++[dJ F.size],status:=.running,dying:=none} w
   |.halt _ w=>.ended (.stuck "the deferred calls of a range-over-func loop have been taken" (fr.pos (strip P F))) w)
   (wK b) m ?_ i j (fun c n o q D _ _=>?_) (fun h o _=>True.intro)
  .cases (Instr.takeDeferred b).run P w<;>exact .refl _
  .have E:=jT m.code D;subst E;exact jF q ⟨k.todo,fun x A=>k.defers x (by rw[l];exact aAR _ A),k.mode,k.kind⟩ p
 |nil=>
  simp only[l,C] at i j⊢;cases y:F[fr.fn]? with
  |none=>
   have e:P.funcs[fr.fn]?=none:=by
    have:=H.res fr.fn;rw[y] at this;cases h:P.funcs[fr.fn]? with
    |none=>rfl
    |some x=>rw[h] at this;cases this
   rw[e] at i j⊢;exact nQ (.refl m) k.kind p _
  |some fn=>
   have e:∃t,P.funcs[fr.fn]?=some t/\results t fr.tmps=results fn fr.tmps:=by
    have:=H.res fr.fn;rw[y] at this;cases h:P.funcs[fr.fn]? with
    |none=>rw[h] at this;cases this
    |some x=>
     rw[h] at this;simp only[aAX,aAF] at this;exact⟨x,rfl,by unfold results;rw[this]⟩
   have⟨t,e,z⟩:=e;rw[e] at i j⊢;simp only[z] at i j⊢;simp only[Sem.runT_eq,lP] at i j⊢;refine rR (k:=fun r=>match r with
    |.ok a w=>doReturn P true fr (frs++cw) none a w
    |.halt (.stuck s) w=>.ended (.stuck s (fr.pos P)) w
    |.halt _ w=>.ended (.stuck "return: the result variables cannot be read" (fr.pos P)) w)
    (k':=fun r=>match r with
    |.ok a w=>doReturn (strip P F) true fr (frs++[dJ F.size]) none a w
    |.halt (.stuck s) w=>.ended (.stuck s (fr.pos (strip P F))) w
    |.halt _ w=>.ended (.stuck "return: the result variables cannot be read" (fr.pos (strip P F))) w)
    (NO fn fr.tmps) m ?_ i j (fun a n o q _ _ _=>nQ q k.kind p a) (fun h o _=>by cases h<;>exact True.intro)
   cases (results fn fr.tmps).run P w with
   |ok a n=>simp only[vJ,tC];exact .refl _
   |halt h n=>cases h<;>exact .refl _
end
section
open Go.Conc (G AtRel)
def UB{Z:dX}(H:Fair P F Z)(g:dK P fr)(h:∀f∈frs,dK P f)(i:Rel Z w v)(c:fA w v (gw (stepG P true (G fr (frs++cw)) w)).drawn)(d:(gw (stepG P true (G fr (frs++cw)) w)).heap.size<=B):
  Live P F Z cw w v B (stepG P true (G fr (frs++cw)) w) (stepG (strip P F) true (G fr (frs++[dJ F.size])) v):=by
 rcases g.mode with b|b
 .have e:∀(p:K5) (a:eX) (u:WR),stepG p true (G fr a) u=stepG.exec p true true fr a none u:=by intro p a u;simp only[stepG,G,b]
  rw[e] at c d;rw[e,e];exact UA H g b h i c d
 .have e:∀(p:K5) (a:eX) (u:WR),stepG p true (G fr a) u=unwind p true fr a none u:=by intro p a u;simp only[stepG,G,b]
  rw[e] at c d;rw[e,e];exact IN H g b h i c d
def zh:(Extern.next "fmt's door, shut").isNone=true:=dC
def nw: "fmt's door, shut".startsWith "fmt's door" =true:=sI
def UD{Z:dX}(e:lQ Z u)(h:(Instr.takeDeferred l).run Q u=.ok c u'):lQ Z u':=by
  unfold Instr.takeDeferred at h;cases d:u.heap[l]? with
  |none=>simp[Go.getObj,bind,Sem.bind,Sem.run,d] at h
  |some o=>
    have f:=e l o d;cases o<;>first
      | (simp[Go.getObj,bind,Sem.bind,Sem.run,d,stuck] at h;done)
      | (rename_i r
         rcases f with rfl|rfl
         · simp only[Go.getObj,bind,Sem.bind,Sem.run,d,setObj,pure,Result.ok.injEq] at h
           obtain⟨_,rfl⟩:=h;intro b o a;simp only[aBK] at a;split at a
           · split at a
             · cases a;exact .inr rfl
             · cases a
           · exact e b o a
         · simp[Go.getObj,bind,Sem.bind,Sem.run,d,stuck] at h)
def nz{Z:dX}{b:Bool}{x y:GStep}(a:b=true)(c:kO F Z x):kO F Z (if b=true then x else y):=by rw[if_pos a];exact c
def UE{Z:dX}(h:pX F g)(j:lQ Z v):kO F Z (stepG (strip P F) true g v):=by
 cases h with
 | @raised fr frs chain m o l=>
  simp only[stepG,G,m];unfold unwind;cases e:fr.defers with
  |cons d s=>
   obtain⟨b,rfl⟩:=o d (by rw[e];simp);simp only[Sem.runT_eq];refine kO.after ?_ _;cases q:(Instr.takeDeferred b).run (strip P F) v with
   |halt k r=>exact True.intro
   |ok c r=>
    have n:=jT (Z:=Z) j q;subst n;exact⟨.raised (fr:={fr with defers:=s}) m (fun x u=>o x (by rw[e];exact aAR _ u)) l,UD j q⟩
  |nil=>
   simp only[m];split
   .exact True.intro
   .cases frs with
    |nil=>exact⟨.caught,j⟩
    |cons c i=>
     refine⟨?_,j⟩;have:∃p,(c.raise chain).mode=.panicking p:=by unfold Frame.raise;split<;>exact⟨_,rfl⟩
     have⟨p,n⟩:=this;refine .raised (fr:=c.raise chain) (frs:=i) n (fun d a=>l c sI d ?_) (fun f t=>l f (by simp[t]));unfold Frame.raise at a;split at a<;>exact a
 |caught=>
  exact nz (b:=Frame.catches (strip P F) {dJ F.size with mode:=.panicking ‹_› }) (by simp[Frame.catches,dJ,nw]) True.intro
 |popped=>
  have w:Extern.next "fmt's door, shut" =none:=by simpa using zh
  simp only[stepG,G,stepG.exec,dJ,Frame.finish,w,Option.elim];exact True.intro
def QG(g:K2)(v:WR):Machine:={world:=v,gs:=#[g],rest:={timers:=#[],alone:=none,slice:=none}}
def rS(fr:Frame)(a:eX)(v:WR):lone fr a v=QG (G fr a) v:=rfl
def pX.form(h:pX F g):∃fr a,g=G fr a:=by cases h<;>exact⟨_,_,rfl⟩
def ZE{Z:dX}(h:pX F g)(p:lQ Z v):∀(n:Nat) (m:Machine),runN (strip P F) n (QG g v)=.next m->∃i c,m=QG i c/\pX F i:=by
 intro n;induction n generalizing g v with
 |zero=>intro m b;cases b;exact⟨g,v,rfl,h⟩
 |succ n q=>
  intro m b;obtain⟨fr,a,rfl⟩:=h.form;have l:=UE (P:=P) (Z:=Z) h p;revert l;cases d:stepG (strip P F) true (G fr a) v with
  |ended o c es=>
   intro _;have:=step_lone_ended (P:=strip P F) (fr:=fr) (cs:=a) (w:=v) (w':=c) (o:=o) (by show(stepG (strip P F) true (G fr a) v).bare=_;rw[d];rfl)
   rw[rS] at this;simp only[runN,this] at b;cases b
  |go i c es=>
   rintro⟨j,k⟩;obtain⟨f,e,rfl⟩:=j.form;have:=step_lone_go (P:=strip P F) (fr:=fr) (cs:=a) (w:=v) (w':=c) (fr':=f) (cs':=e) (by show(stepG (strip P F) true (G fr a) v).bare=_;rw[d];rfl)
   rw[rS,rS] at this;simp only[runN,this] at b;exact q j k m b
  |_=>exact fun h=>h.elim
def BE(c:dK P fr)(h:pX F (G fr (frs++[dJ F.size]))):False:=by
 generalize a:G fr (frs++[dJ F.size])=g at h;cases h with
 |raised b _ _=>
  simp only[G,Goroutine.mk.injEq] at a;rw[<-a.1] at b;rcases c.mode with h|h<;>rw[h] at b<;>cases b
 |caught=>simp[G] at a
 |popped=>simp[G] at a
def UF{Z:dX}(H:Fair P F Z){d:Frame}{c:eX}{i:WR}(x:dK P fr)(u:∀f∈frs,dK P f)(A:Rel Z w v)(E:fA w v (gw (stepG P true (G fr (frs++cw)) w)).drawn)(k:runN (strip P F) (n+1) (lone fr (frs++[dJ F.size]) v)=.next (lone d (c++[dJ F.size]) i))(h3:dK P d):
  ∃a b g e es,stepG P true (G fr (frs++cw)) w=.go (G a (b++cw)) g es/\dK P a/\(∀f∈b,dK P f)/\On Z w v g e/\cV Z g.heap.size es/\
   runN (strip P F) n (lone a (b++[dJ F.size]) e)=.next (lone d (c++[dJ F.size]) i):=by
 have p:=UB H x u A E lR;rcases p with p| ⟨a,b,g,e,es,s,C,t1,t2,z,t⟩
 .exfalso;revert p;cases l:stepG (strip P F) true (G fr (frs++[dJ F.size])) v with
  |ended o e es=>
   intro _;have:=step_lone_ended (P:=strip P F) (fr:=fr) (cs:=frs++[dJ F.size]) (w:=v) (w':=e) (o:=o) (by show(stepG (strip P F) true (G fr (frs++[dJ F.size])) v).bare=_;rw[l];rfl)
   simp only[runN,this] at k;cases k
  |go J e es=>
   rintro⟨r,y⟩;obtain⟨a,j,rfl⟩:=r.form;have:=step_lone_go (P:=strip P F) (fr:=fr) (cs:=frs++[dJ F.size]) (w:=v) (w':=e) (fr':=a) (cs':=j) (by show(stepG (strip P F) true (G fr (frs++[dJ F.size])) v).bare=_;rw[l];rfl)
   simp only[runN,this] at k;rw[rS,rS] at k;have⟨m,I,D,q⟩:=ZE (P:=P) (Z:=Z) r y n _ k;have:m=G d (c++[dJ F.size]):=by have:=congrArg Machine.gs D;simpa[QG] using this.symm
   subst this;exact BE h3 q
  |_=>exact fun h=>h.elim
 .have B:=step_lone_go (P:=strip P F) (fr:=fr) (cs:=frs++[dJ F.size]) (w:=v) (w':=e) (fr':=a) (cs':=b++[dJ F.size]) C;simp only[runN,B] at k;rw[s] at t;exact⟨a,b,g,e,es,s,t1,t2,z,t,k⟩
section
variable {P:K5}{F:yg}{Z:dX}
inductive nR (P:Program)(D:World->World->Array Event->Prop)(Stop:Goroutine->World->Prop):Goroutine->World->Prop
 |stop {a:Goroutine} {w:World}:(∀w₁,AtRel w w₁->Stop a w₁)->nR P D Stop a w
 |step {a:Goroutine} {w:World} (run:a.status=.running) (nx:World->Goroutine×World×Array Event):
  (∀w₁,AtRel w w₁->stepG P true a w₁=.go (nx w₁).1 (nx w₁).2.1 (nx w₁).2.2/\D w₁ (nx w₁).2.1 (nx w₁).2.2)->
  (∀w₁,AtRel w w₁->nR P D Stop (nx w₁).1 (nx w₁).2.1)->nR P D Stop a w
def kY(Z:dX)(w a:WR)(b:aA):Prop:=w.heap.size<=a.heap.size/\cV Z a.heap.size b
section
variable {D:WU}{Stop:WM}
def ZF(P:K5)(D:WU)(Stop:WM)(a:K2)(b:WR):Prop:=
 ∃d c e,stepG P true a b=.go d c e/\D b c e/\nR P D Stop d c
open Classical in
def ZG{a:K2}{w:WR}(e:a.status=.running)(h:¬nR P D Stop a w):∃b,AtRel w b/\¬ZF P D Stop a b:=by
 apply aCd;intro f;have d:∀b,AtRel w b->ZF P D Stop a b:=fun b c=>aCd fun g=>f ⟨b,c,g⟩;refine h (.step e (fun b=>if c:AtRel w b then(Classical.choose (d b c),Classical.choose (aBo (d b c)),Classical.choose (aBo (aBo (d b c)))) else(a,w,#[])) (fun b c=>?_) (fun b c=>?_))
 .have:=aBo (aBo (aBo (d b c)));simp only[dif_pos c];exact⟨this.1,this.2.1⟩
 .have:=aBo (aBo (aBo (d b c)));simp only[dif_pos c];exact this.2.2
end
section
variable (P:K5)(bad:WM)
open Classical in
noncomputable def nH(x:K2×WR):WR:=if h:∃a,AtRel x.2 a/\bad x.1 a then Classical.choose h else x.2
noncomputable def ZH(x:K2×WR):K2×WR:=
 match stepG P true x.1 (nH bad x) with
 |.go b a _=>(b,a)
 |s=>(x.1,gw s)
noncomputable def iY(x:K2×WR):Nat->K2×WR
 |0=>x
 |k+1=>ZH P bad (iY x k)
noncomputable def BF(x:K2×WR)(k:Nat):Nat:=(gw (stepG P true (iY P bad x k).1 (nH bad (iY P bad x k)))).drawn - (nH bad (iY P bad x k)).drawn
noncomputable def yB(x:K2×WR):Nat->Nat
 |0=>0
 |k+1=>yB x k+BF P bad x k
open Classical in
noncomputable def wS(x:K2×WR)(m:Nat)(q:Question):Nat:=
 if h:∃a:Nat×Nat,m=yB P bad x a.1+a.2/\a.2<BF P bad x a.1 then
  x.2.tape ((nH bad (iY P bad x (Classical.choose h).1)).drawn+(Classical.choose h).2) q
 else 0
def QH(x:K2×WR){i j:Nat}(h:i<=j):yB P bad x i<=yB P bad x j:=by
 induction h with
 |refl=>exact aAz _
 |step _ a=>exact aAw a (Nat.le_add_right _ _)
def NR(x:K2×WR){k j:Nat}(l:j<BF P bad x k):wS P bad x (yB P bad x k+j)=x.2.tape ((nH bad (iY P bad x k)).drawn+j):=by
 funext q;have h:∃a:Nat×Nat,yB P bad x k+j=yB P bad x a.1+a.2/\a.2<BF P bad x a.1:=⟨(k,j),rfl,l⟩;unfold wS;rw[dif_pos h];have⟨e,f⟩:=aBo h;generalize Classical.choose h=a at e f;have⟨b,g⟩:=a;dsimp only at e f⊢;have i:k=b:=by
  rcases aDd k b with c|heq|d
  .have:=QH P bad x (show k+1<=b from c);simp only[yB] at this;omega
  .exact heq
  .have:=QH P bad x (show b+1<=k from d);simp only[yB] at this;omega
 subst i;have:j=g:=oM
 subst this;rfl
end
def Rel.at{w v a:WR}(h:Rel Z w v)(b:AtRel w a):Rel Z a v:=by obtain⟨d,rfl⟩:=b;exact⟨h.size,h.low,h.look,h.code,h.os,h.out⟩
def Rel.tape{w v:WR}(h:Rel Z w v)(t:Nat->Question->Nat)(d:Nat):Rel Z w {v with tape:=t,drawn:=d}:=
 ⟨h.size,h.low,h.look,h.code,h.os,h.out⟩
def pY(a w v:WR):Prop:=∀(b:Nat) (o:Obj),v.heap[b]?=some o->QD o->b<a.heap.size->w.heap[b]?=a.heap[b]?
def NS(Z:dX)(d:eX)(S:Frame->eX->K6)(b:WR)(a:K2)(w:WR):Prop:=
 ∃fr c v,a=G fr (c++d)/\Rel Z w v/\pY b w v/\S fr c v
def lift(H:Fair P F Z){cw:eX}{S:Frame->eX->K6}{fr:Frame}{frs:eX}{w:WR}(R:dK P fr)(K:∀f∈frs,dK P f)(hv:∃v,Rel Z w v)(hl:∀v,Rel Z w v->∃n e c h,runN (strip P F) n (lone fr (frs++[dJ F.size]) v)=.next (lone e (c++[dJ F.size]) h)/\dK P e/\S e c h):
  nR P (kY Z) (NS Z cw S w) (G fr (frs++cw)) w:=by
 apply aCd;intro Y;have⟨v0,T⟩:=hv
 let bad:WM:=fun a r=>¬ZF P (kY Z) (NS Z cw S w) a r
 let x:K2×WR:=(G fr (frs++cw),w)
 have⟨n,J,q,B,L,ht,hS⟩:=hl _ (T.tape (wS P bad x) 0);have key:∀k,k<=n->∃e c h,(iY P bad x k).1=G e (c++cw)/\dK P e/\(∀f∈c,dK P f)/\Rel Z (iY P bad x k).2 h/\(pY w (iY P bad x k).2 h/\w.heap.size<=(iY P bad x k).2.heap.size)/\h.drawn=yB P bad x k/\h.tape=wS P bad x/\(iY P bad x k).2.tape=w.tape/\
   ¬nR P (kY Z) (NS Z cw S w) (iY P bad x k).1 (iY P bad x k).2/\runN (strip P F) (n - k) (lone e (c++[dJ F.size]) h)=.next (lone J (q++[dJ F.size]) B):=by
  intro k;induction k with
  |zero=>exact fun _=>⟨fr,frs,_,rfl,R,K,T.tape _ _,⟨fun _ _ _ _ _=>rfl,aAz _⟩,rfl,rfl,rfl,Y,L⟩
  |succ k ih=>
   intro hk;have⟨e,c,h,t,t1,t2,hr,⟨y,U⟩,A,M,a6,l,g⟩:=ih oM;have hp:AtRel (iY P bad x k).2 (nH bad (iY P bad x k))/\bad (iY P bad x k).1 (nH bad (iY P bad x k)):=by have:=ZG (a:=(iY P bad x k).1) (by rw[t];rfl) l;unfold nH;rw[dif_pos this];exact aBo this
   have⟨z,N⟩:=hp;have W:=hr.at z;have I:(nH bad (iY P bad x k)).tape=w.tape:=by have⟨d,A⟩:=z;rw[A];exact a6
   have a3:fA (nH bad (iY P bad x k)) h (gw (stepG P true (G e (c++cw)) (nH bad (iY P bad x k)))).drawn:=by intro j hj;rw[M,A,NR P bad x (by unfold BF;rw[t];omega),I]
   have a4:n - k=(n - (k+1))+1:=oM
   rw[a4] at g;have⟨p,i,O,a5,es,hy,a0,X,s,hc,D⟩:=UF H t1 t2 W a3 g ht;have a2:iY P bad x (k+1)=(G p (i++cw),O):=by show ZH P bad (iY P bad x k)=_;unfold ZH;rw[t,hy]
   rw[a2];have u:(nH bad (iY P bad x k)).heap=(iY P bad x k).2.heap:=by have⟨d,A⟩:=z;rw[A];rfl
   refine⟨p,i,a5,rfl,a0,X,s.rel,⟨fun b o R K h3=>?_,?_⟩,?_,s.tv.tr M,s.tw.tr I,?_,D⟩
   .have⟨⟨Q,x1,x2⟩,x3⟩:=s.off b o R K (by rw[u];exact aAy h3 U);rw[u] at x3;exact x3.tr (y b Q x1 x2 h3)
   .have:=s.grow;rw[u] at this;exact aAw U this
   .rw[s.step,A];show _=yB P bad x k+BF P bad x k;unfold BF;rw[t,hy];rfl
   .intro V;refine N ⟨_,O,es,?_,⟨s.grow,hc⟩,V⟩;rw[t];exact hy
 have⟨e,c,h,t,t1,t2,hr,⟨y,_⟩,_,_,_,l,g⟩:=key n lR;rw[Nat.sub_self] at g;simp only[runN] at g;have hm:=Stepped.next.inj g
 have hg:=congrArg Machine.gs hm;have V:=congrArg Machine.world hm;simp only[lone] at hg V;have E:G e (c++[dJ F.size])=G J (q++[dJ F.size]):=by simpa[G] using hg
 simp only[G,Goroutine.mk.injEq] at E;obtain⟨rfl,a1,_⟩:=E;have C:=List.append_cancel_right a1;subst C V;exact l (.stop fun r m=>⟨e,c,h,t,hr.at m,(fun b o R K h3=>by obtain⟨d,rfl⟩:=m;exact y b o R K h3),hS⟩)
end
end
section
open Go.Conc Go.ConcN
structure gZ (Shun:yi)(B n:Nat)(t:Trace):Prop where
 tY:Past Shun B t
 quiet:Quiet Shun t
 Kz:∀op∈t,op.g<n
 mem:∀op∈t,∀x,op.act.touch?=some x->x.loc.isMemory=true
def gZ.mono{a:yi}{B':Nat}(h:gZ a B n t)(b:B<=B'):gZ a B' n t:=⟨h.tY.mono b,h.quiet,h.Kz,h.mem⟩
def wx(a:yi)(B:Nat)(e:Event):Prop:=EvL a B e/\∀x,(MemAct.ofEvent e).touch?=some x->¬a x.loc/\x.loc.isMemory=true
def gZ.own{b:yi}(h:gZ b B n t)(j:0<n)(d:∀e∈es,wx b B e):gZ b B n (t++MemOp.ofEvents 0 fn pos es):=by
 have key:∀op∈MemOp.ofEvents 0 fn pos es,op.g=0/\∀x,op.act.touch?=some x->¬b x.loc/\x.loc.isMemory=true:=fun op a=>by obtain⟨e,g,rfl⟩:=Go.Conc.mem_ofEvents a;exact⟨rfl,(d e g).2⟩
 refine⟨h.tY.own fun e g=>(d e g).1,h.quiet.app fun op a x f i=>absurd i ((key op a).2 x f).1,fun op a=>?_,fun op a x f=>?_⟩
 .rcases aBC.1 a with c|c
  .exact h.Kz op c
  .rw[(key op c).1];exact j
 .rcases aBC.1 a with c|c
  .exact h.mem op c x f
  .exact((key op c).2 x f).2
def gZ.mute{b:yi}{g:Nat}(h:gZ b B n t)(j:g≠0)(k:g<n)(f:∀e∈es,e.mute=true):gZ b B n (t++MemOp.ofEvents g fn pos es):=by
 have key:∀op∈MemOp.ofEvents g fn pos es,op.g=g/\op.act.touch?=none:=fun op a=>by obtain⟨e,i,rfl⟩:=Go.Conc.mem_ofEvents a;exact⟨rfl,touch_mute (f e i)⟩
 refine⟨h.tY.mute j f,h.quiet.app fun op a x d _=>?_,fun op a=>?_,fun op a x d=>?_⟩
 .rw[(key op a).2] at d;cases d
 .rcases aBC.1 a with c|c
  .exact h.Kz op c
  .rw[(key op c).1];exact k
 .rcases aBC.1 a with c|c
  .exact h.mem op c x d
  .rw[(key op c).2] at d;cases d
def vK{n:yi}(E:gs[0]?=some a)(f:a.status=.running)(G:Leavers P t gs q)(U:gZ n B gs.size t):
  ∃d l,stepT P (crowd gs w sl)=runT P (crowd gs (w.at d) l) 0\/
   ∃c p N,stepT P (crowd gs w sl)=(.next (crowd c (w.at d) l),p)/\c.size=gs.size/\c[0]?=some a/\Leavers P (t++p) c N/\gZ n B gs.size (t++p)/\sumTo c.size N<sumTo gs.size q:=by
 have C:∀g∈gs,awake g:=fun g r=>by
  obtain⟨i,s,rfl⟩:=Array.mem_iff_getElem.1 r;by_cases H:i=0
  .subst H;rw[aAN s] at E;rw[aAv E];exact awake_of (.inl f)
  .rcases(G.old i _ oM (aAN s)).status with h|h
   .exact awake_of (.inl h)
   .exact awake_of (.inr (.inr h))
 have⟨i,g,d,l,s,r,v⟩:=crowd_pick (P:=P) (w:=w) (sl:=sl) C ⟨0,a,E,f⟩;refine⟨d,l,?_⟩;by_cases H:i=0
 .subst H;exact .inl v
 have z:0<i:=oM
 have o:i<gs.size:=(aAu.1 s).1;have F:=G.old i g z s;obtain⟨k,M⟩:∃k,q i=k+1:=by
  cases h:q i with
  |zero=>rw[h] at F;rw[F.1] at r;cases r
  |succ k=>exact⟨k,rfl⟩
 rw[M] at F;rcases F with⟨O,_⟩| ⟨_,K,es,T,u,L⟩
 .rw[O] at r;cases r
 have R:=runT_crowd_go (P:=P) (sl:=l) (i:=i) s (w:=w.at d) (by rw[show(i==0)=false by simp;omega];exact u _)
 have b:∀j,j≠i->Deaf (t++MemOp.ofEvents i g.frame.fn g.frame.place es) j=Deaf t j:=fun j D=>
  Deaf_other t (g':=i) (Ne.symm D) _ (fun op J=>by obtain⟨e,_,rfl⟩:=Go.Conc.mem_ofEvents J;rfl)
 refine .inr ⟨_,_,upd q i k,v.tr R,sI,?_,⟨fun j x D I=>?_,fun j D=>?_⟩,U.mute oM o T,?_⟩
 .rw[aAH H,aCD,E];simp[woken_run f]
 .by_cases m:i=j
  .subst m;rw[aBm (by simpa using o)] at I;cases I;rw[upd_same,Deaf_own];exact L
  .rw[aAH m,aCD] at I;obtain⟨y,Q,rfl⟩:=aAU.1 I;have A:=G.old j y D Q;rw[woken_quitsD A,upd_ne q k (Ne.symm m),b j (Ne.symm m)];exact A
 .have:gs.size<=j:=by simpa using D
  rw[b j oM];exact G.above j this
 .have:=sumTo_upd q k id o;have this:sumTo gs.size (upd q i k)+(k+1)=sumTo gs.size q+k:=by simpa[M] using this
  have S:((gs.map (woken P g K (w.at d))).setIfInBounds i K).size=gs.size:=sI
  rw[S];omega
def yC{m:K2}{i:WR}(k:gs[0]?=some a)(n:Leavers P t gs q)(r:stepG P true a w=.go m i es):
  ∃c,runT P (crowd gs w sl) 0=(.next (crowd c i sl),MemOp.ofEvents 0 a.frame.fn a.frame.place es)/\c.size=gs.size/\c[0]?=some m/\Leavers P (t++MemOp.ofEvents 0 a.frame.fn a.frame.place es) c q:=by
 have f:0<gs.size:=(aAu.1 k).1;have b:∀j,j≠0->Deaf (t++MemOp.ofEvents 0 a.frame.fn a.frame.place es) j=Deaf t j:=fun j d=>
  Deaf_other t (g':=0) (Ne.symm d) _ (fun op h=>by obtain⟨e,_,rfl⟩:=Go.Conc.mem_ofEvents h;rfl)
 refine⟨_,runT_crowd_go (P:=P) (sl:=sl) (i:=0) k r,sI,by simp[f],fun j x d o=>?_,fun j d=>?_⟩
 .have g:0≠j:=oM
  rw[aAH g,aCD] at o;obtain⟨y,p,rfl⟩:=aAU.1 o;have l:=n.old j y d p;rw[woken_quitsD l,b j oM];exact l
 .have:gs.size<=j:=by simpa using d
  rw[b j oM];exact n.above j this
structure fB (P:K5)(Shun:yi)(B n:Nat)(a:K2)(w:WR)(m:Machine)(t:Trace):Prop where
 ex:∃gs sl q,m=crowd gs w sl/\gs.size=n/\gs[0]?=some a/\Leavers P t gs q/\gZ Shun B n t
def Runs(P:K5)(m:Machine)(t:Trace)(S:Machine->Trace->Prop):Prop:=∃N b a,runNT P N m t=(.next b,a)/\S b a
def Runs.here{S:Machine->Trace->Prop}(h:S m t):Runs P m t S:=⟨0,m,t,rfl,h⟩
def Runs.step{P:K5}{m d:Machine}{t:Trace}{a:Array MemOp}{S:Machine->Trace->Prop}(h:stepT P m=(.next d,a))(k:Runs P d (t++a) S):Runs P m t S:=by have⟨N,c,b,f,e⟩:=k;exact⟨N+1,c,b,by simp only[runNT,h];exact f,e⟩
def runNT_add:∀(a b:Nat),runNT P (a+b) m t=match runNT P a m t with
  | (.next c,g)=>runNT P b c g
  |e=>e:=by
 intro a;induction a generalizing m t with
 |zero=>intro b;simp[runNT]
 |succ a f=>
  intro b;rw[show a+1+b=(a+b)+1 by omega];simp only[runNT];cases h:stepT P m with
  |mk s d=>
   cases s with
   |next c=>simp only[f]
   |ended o w=>rfl
def Runs.then{S e:Machine->Trace->Prop}(h:Runs P m t S)(k:∀g f,S g f->Runs P g f e):Runs P m t e:=by have⟨N,b,c,l,i⟩:=h;have⟨j,d,a,h3,h4⟩:=k b c i;exact⟨N+j,d,a,by rw[runNT_add,l];exact h3,h4⟩
def Runs.mono{S c:Machine->Trace->Prop}(h:Runs P m t S)(k:∀b a,S b a->c b a):Runs P m t c:=h.then fun b a d=>.here (k b a d)
def tZ{c:yi}{D:WU}{s:WM}{β:WR->Nat}(z:∀w d,β (w.at d)=β w)(R:∀w p es,D w p es->β w<=β p/\∀e∈es,wx c (β p) e)(h:nR P D s a w):
  ∀{b:WR} {m:Machine} {t:Trace},AtRel w b->fB P c (β b) n a b m t->Runs P m t fun O J=>∃B p,s B p/\fB P c (β p) n B p O J:=by
 induction h with
 |stop G=>exact fun v f=>.here ⟨_,_,G _ v,f⟩
 | @step a w x U F _ S=>
  suffices ∀(K:Nat) (b:WR) (gs:Array K2) (sl:Option (Nat×Nat)) (t:Trace) (q:Nat->Nat),sumTo gs.size q<=K->AtRel w b->gs.size=n->gs[0]?=some a->Leavers P t gs q->gZ c (β b) n t->
    Runs P (crowd gs b sl) t fun O J=>∃B p,s B p/\fB P c (β p) n B p O J by
   rintro b m t v ⟨gs,sl,q,rfl,r,u,y,A⟩;exact this _ b gs sl t q lR v r u y A
  intro K;induction K with
  |zero=>
   intro b gs sl t q V v r u y A;obtain⟨d,k,f| ⟨g,E,T,f,i,l,j,C,I⟩⟩:=vK (w:=b) (sl:=sl) u x y (r▸A)
   .have o:AtRel w (b.at d):=atRel_trans _ _ _ v ⟨d,rfl⟩;have⟨G,H⟩:=F _ o;have⟨g,N,i,l,j⟩:=yC (P:=P) (sl:=k) u y G;have⟨L,Q⟩:=R _ _ _ H;exact .step (f.tr N) (S _ o ⟨(U (b.at d)).2.1.drawn,rfl⟩ ⟨g,k,q,rfl,i.tr r,l,j,((z b d).symm▸A:gZ c (β (b.at d)) n t).mono L|>.own (by rw[<-r];exact(aAu.1 u).1) Q⟩)
   .omega
  |succ K M=>
   intro b gs sl t q V v r u y A;obtain⟨d,k,f| ⟨g,E,T,f,i,l,j,C,I⟩⟩:=vK (w:=b) (sl:=sl) u x y (r▸A)
   .have o:AtRel w (b.at d):=atRel_trans _ _ _ v ⟨d,rfl⟩;have⟨G,H⟩:=F _ o;have⟨g,N,i,l,j⟩:=yC (P:=P) (sl:=k) u y G;have⟨L,Q⟩:=R _ _ _ H;exact .step (f.tr N) (S _ o ⟨(U (b.at d)).2.1.drawn,rfl⟩ ⟨g,k,q,rfl,i.tr r,l,j,((z b d).symm▸A:gZ c (β (b.at d)) n t).mono L|>.own (by rw[<-r];exact(aAu.1 u).1) Q⟩)
   .exact .step f (M (b.at d) g k (t++E) T oM (atRel_trans _ _ _ v ⟨d,rfl⟩) (i.tr r) l j ((z b d).symm▸(r▸C)))
def jU(Z:dX)(b:yi):Prop:=∀l,b l->∃a,l=.cell a/\Z a.block
def FD{b:yi}{Z:dX}(l:jU Z b){e:Event}(h:Clean Z B e):wx b B e:=by
 have⟨g,wr,j⟩:=e;have c:∀x,(MemAct.ofEvent ⟨g,wr,j⟩).touch?=some x->¬b x.loc/\x.loc.isMemory=true:=by
  intro x d;cases g with
  |cell a=>
   simp only[MemAct.ofEvent,MemAct.touch?,aAF] at d;subst d;refine⟨fun i=>?_,rfl⟩;have⟨n,e,k⟩:=l _ i;cases e;exact h.1 k
  |obj r=>
   have:x.loc=.obj r:=by cases wr<;>cases j<;>simp only[MemAct.ofEvent,MemAct.touch?,aAF,reduceCtorEq] at d<;>subst d<;>rfl
   rw[this];refine⟨fun i=>?_,rfl⟩;have⟨n,e,k⟩:=l _ i;cases e
  |mark m=>rcases h with⟨f,rfl⟩|rfl<;>simp[MemAct.ofEvent,MemAct.touch?] at d
  |output=>exact h.elim
  |goroutines=>exact h.elim
 refine⟨⟨fun x d i=>absurd i (c x d).1,?_,?_,?_⟩,c⟩
 .rintro rfl;rcases h with⟨f,h⟩|h<;>cases h
 .rintro rfl;rcases h with⟨f,h⟩|h<;>cases h
 .cases g with
  |cell a=>exact h.2
  |obj r=>cases wr<;>cases j<;>exact h
  |mark m=>rcases h with⟨f,rfl⟩|rfl<;>exact trivial
  |output=>exact h.elim
  |goroutines=>exact h.elim
def NT{a:yi}{Z:dX}(d:jU Z a):∀w b es,kY Z w b es->w.heap.size<=b.heap.size/\∀e∈es,wx a b.heap.size e:=
 fun _ _ _ h=>⟨h.1,fun e c=>FD d (h.2 e c)⟩
end
open Classical in
noncomputable def ZI(Z:dX)(b:Nat)(o:Obj):Obj:=
 match o with
 |.view _ u=>.view ⟨0,0,some default⟩ u
 |.cells c e f=>if Z b then .cells #[] e else .cells c e f
 |o=>if kF Z o then o else .coro none
def yD{Z:dX}(h:∀b,Z b->b<w.heap.size)(i:∀(b:Nat) (o:Obj),w.heap[b]?=some o->¬eZ o->¬kF Z o->Z b)(m:∀(b:Nat) (c:Ff) (e:Fh) (f:Nat×Nat),Z b->w.heap[b]?=some (.cells c e f)->f=(0,0)):∃v,Rel Z w v:=by
 refine⟨{w with heap:=w.heap.mapIdx (ZI Z)},sI,h,fun b=>?_,fun b o d=>?_,rfl,rfl⟩
 .simp only[aCQ];cases n:w.heap[b]? with
  |none=>exact .same fun o d=>by cases d
  |some o=>
   have g:=i b o n;simp only[aAX];unfold ZI;split
   .exact .view trivial rfl
   .split
    .rename_i c e f j;have:=m b c e f j n;subst this;exact .gP j
    .rename_i j;exact .same fun o d=>by cases d;exact⟨id,fun z=>absurd z j⟩
   .rename_i s r;have k:¬eZ o:=by cases o<;>first|exact id|exact absurd rfl (s _ _)
    have q:¬dE o:=by cases o<;>first|exact id|exact absurd rfl (r _ _ _)
    split
    .exact .same fun t d=>by cases d;exact⟨k,fun _=>q⟩
    .rename_i p;exact .shut (g k p) q k (by rintro a l rfl;exact p trivial)
 .simp only[aCQ] at d;obtain⟨x,u,rfl⟩:=aAU.1 d;unfold ZI;split
  .exact trivial
  .split<;>exact trivial
  .split
   .assumption
   .exact trivial
section
open Go.Extern
section
variable{P:K5}{F:yg}
theorem kP:∀(d:Nat) (t:Fh),(strip P F).namesPacked d t=P.namesPacked d t
 |0,_=>rfl
 |d+1,t=>by have a:(strip P F).namesPacked d=P.namesPacked d:=funext fun t=>kP d t;simp only[Program.namesPacked,a,jE];rfl
end
section
variable{P:K5}{F:yg}
theorem kQ:∀(d:Nat) (t:Fh),(strip P F).methodsOfAPack d t=P.methodsOfAPack d t
 |0,_=>rfl
 |d+1,t=>by have a:(strip P F).methodsOfAPack d=P.methodsOfAPack d:=funext fun t=>kQ d t;simp only[Program.methodsOfAPack,a,jE];rfl
end
def n9{Z:dX}{f:K5->Bool}{u:Unsupported}(a:∀g,u≠.initOrder g)(h:f (strip P F)=f P):Lk P F Z (program>>=fun p=>if f p=true then(unsupported u:Sem Unit) else pure ()):=by refine cQ (by rw[h]) ?_;exact kX (bO _ a) (aY _)
def yE{Z:dX}{f:K5->K5->Bool}{u:Unsupported}(c:∀g,u≠.initOrder g)(b:∀q,f (strip P F) q=f P q)(a:∀q,f q (strip P F)=f q P):Lk P F Z (program>>=fun p=>program>>=fun q=>if f p q=true then(unsupported u:Sem Unit) else pure ()):=by refine cQ (by simp only[b]) ?_;refine cQ (by rw[a]) ?_;exact kX (bO _ c) (aY _)
def tM{Z:dX}(s:String)(t:Fh):Lk P F Z (Rtype.noPack s t):=n9 (f:=fun p=>p.packed t) (fun g h=>by cases h) (jE t)
def BG{Z:dX}(s:String)(t:Fh):Lk P F Z (Rtype.noPackHeld s t):=yE (f:=fun p q=>p.holdsPacked q.depth t) (fun g h=>by cases h) (fun q=>gQ _ t) (fun q=>rfl)
def xP{Z:dX}(s:String)(t:Fh):Lk P F Z (Rtype.noPackNamed s t):=yE (f:=fun p q=>p.namesPacked q.depth t) (fun g h=>by cases h) (fun q=>kP _ t) (fun q=>rfl)
def tL{Z:dX}(s:String)(t:Fh):Lk P F Z (Rtype.noPackMethods s t):=yE (f:=fun p q=>p.methodsOfAPack q.depth t) (fun g h=>by cases h) (fun q=>kQ _ t) (fun q=>rfl)
def TG{Z:dX}(t:Fh):Lk P F Z (Rtype.handle t):=by unfold Rtype.handle;exact pO
def kS{Z:dX}(h:vZ):Lk P F Z (Rtype.ofHandle h):=by unfold Rtype.ofHandle;exact pO
def YD{Z:dX}(t:Fh):Lk P F Z (Rtype.spelt t):=by unfold Rtype.spelt;exact pO
def MT{Z:dX}(n:String):Lk P F Z (Go.cutType n):=by unfold Go.cutType;exact pO
def nO{a:Type}{Z:dX}(n:String):Lk P F Z ((panicString n:Sem a)):=by unfold panicString;exact pO
def TF{Z:dX}(t:Fh):Lk P F Z (Rtype.under t):=by unfold Rtype.under;exact pO
def QF{Z:dX}(t:Fh):Lk P F Z (Rtype.kind t):=by unfold Rtype.kind;exact pO
def MR{Z:dX}(t:Fh):Lk P F Z (Rtype.hasName t):=by unfold Rtype.hasName;exact pO
def YE{Z:dX}(t:Fh):Lk P F Z (Rtype.elem? t):=by unfold Rtype.elem?;exact pO
def AW{Z:dX}(t u:Fh):Lk P F Z (Rtype.implements t u):=by unfold Rtype.implements;exact pO
def TH{Z:dX}(t u:Fh):Lk P F Z (Rtype.directlyAssignable t u):=by unfold Rtype.directlyAssignable;exact pO
def tN{Z:dX}(t:Fh):Lk P F Z (ReflectliteType.toType t):=by unfold ReflectliteType.toType;exact pO
def qM{Z:dX}(h:vZ):Lk P F Z (ReflectliteType.ofRtype h):=by
 unfold ReflectliteType.ofRtype;cases h with
 |agg x=>
  have⟨l⟩:=x;rcases l with _| ⟨a,_| ⟨b,l⟩⟩
  .exact aW _
  .exact aX (kS _) fun _=>aX (tM _ _) (fun _=>aY _)
  .exact aW _
 |_=>exact aW _
def iM{a:Type}{Z:dX}(m:String)(k:Nat):Lk P F Z ((ReflectliteValue.valueError m k:Sem a)):=by unfold ReflectliteValue.valueError;exact pO
def y9{Z:dX}(t:Fh)(a:Addr)(n:Nat):Lk P F Z (ReflectliteValue.mk t a n):=by unfold ReflectliteValue.mk;exact pO
def vE{Z:dX}(x:vZ):Lk P F Z (ReflectliteValue.partsAny x):=by
 unfold ReflectliteValue.partsAny;cases x with
 |agg x=>
  have⟨l⟩:=x;rcases l with _| ⟨a,_| ⟨b,_| ⟨c,_| ⟨d,l⟩⟩⟩⟩
  .exact aW _
  .exact aW _
  .exact aW _
  .cases c with
   |int k n=>
    cases k with
    |u64=>
     cases n with
     |ofNat n=>
      cases n with
      |zero=>exact aY _
      |succ n=>
       cases b with
       |pointer p=>
        cases p with
        |none=>exact aW _
        |some e=>exact aX (kS _) (fun _=>aY _)
       |_=>exact aW _
     |negSucc n=>
      cases b with
      |pointer p=>
       cases p with
       |none=>exact aW _
       |some e=>exact aX (kS _) (fun _=>aY _)
      |_=>exact aW _
    |_=>exact aW _
   |_=>exact aW _
  .exact aW _
 |_=>exact aW _
def rH{Z:dX}(x:vZ):Lk P F Z (ReflectliteValue.parts x):=by unfold ReflectliteValue.parts;exact pO
def NU{Z:dX}(x:Ff):Lk P F Z (ReflectliteType.typeOf x):=by
 unfold ReflectliteType.typeOf;have⟨l⟩:=x;rcases l with _| ⟨a,_| ⟨b,l⟩⟩
 .exact aW _
 .cases a with
  |nilIface=>exact aY _
  |iface t v=>exact tN _
  |_=>exact aW _
 .exact aW _
def xQ{Z:dX}(x:vZ):Lk P F Z (ReflectliteValue.unpack x):=by unfold ReflectliteValue.unpack;exact pO
def ZJ{Z:dX}(t:Fh):Lk P F Z (ReflectliteType.elem t):=by unfold ReflectliteType.elem;exact pO
def ZK{Z:dX}(t u:Fh):Lk P F Z (ReflectliteType.implements_ t u):=by unfold ReflectliteType.implements_;exact pO
def NV{Z:dX}(t u:Fh):Lk P F Z (ReflectliteType.assignableTo t u):=by unfold ReflectliteType.assignableTo;exact pO
def UG{Z:dX}(t:Fh)(a:Addr)(n m:Nat):Lk P F Z (ReflectliteValue.isNil t a n m):=by unfold ReflectliteValue.isNil;exact pO
def ZL{Z:dX}(t:Fh)(a:Addr)(n m:Nat):Lk P F Z (ReflectliteValue.elem t a n m):=by unfold ReflectliteValue.elem;exact pO
def oc{Z:dX}(x:Ff):Lk P F Z (ReflectliteValue.set x):=by
 unfold ReflectliteValue.set;have⟨l⟩:=x;rcases l with _| ⟨a,_| ⟨b,_| ⟨c,l⟩⟩⟩
 .exact aW _
 .exact aW _
 .refine aX (rH a) fun p=>aX (rH b) (fun q=>?_);exact pO
 .exact aW _
def yF{Z:dX}{f:Fh->Sem vZ}(c:∀t,Lk P F Z (f t))(x:Ff):Lk P F Z (ReflectliteType.method f x):=by
 have⟨l⟩:=x;rcases l with _| ⟨a,_| ⟨b,l⟩⟩
 .exact aW _
 .exact aX (qM a) fun _=>c _
 .exact aW _
def rT{Z:dX}{s:String}{f:Fh->Fh->Sem Bool}(d:∀t u,Lk P F Z (f t u))(x:Ff):Lk P F Z (ReflectliteType.relation s f x):=by
 have⟨l⟩:=x;rcases l with _| ⟨a,_| ⟨b,_| ⟨c,l⟩⟩⟩
 .exact aW _
 .exact aW _
 .cases b with
  |nilIface=>exact nO _
  |iface t u=>exact aX (qM u) (fun _=>aX (qM a) (fun _=>aX (d _ _) (fun _=>aY _)))
  |_=>exact aW _
 .exact aW _
def oe{Z:dX}{f:Fh->Sem vZ}(c:∀t,Lk P F Z (f t))(x:Ff):Lk P F Z (ReflectliteType.abiMethod f x):=by
 have⟨l⟩:=x;rcases l with _| ⟨a,_| ⟨b,l⟩⟩
 .exact aW _
 .exact aX (kS a) fun _=>aX (tM _ _) (fun _=>c _)
 .exact aW _
def yG{Z:dX}{f:Fh->Addr->Nat->Nat->Sem vZ}(c:Lk P F Z z)(d:∀t a n m,Lk P F Z (f t a n m))(x:Ff):Lk P F Z (ReflectliteValue.method z f x):=by
 have⟨l⟩:=x;rcases l with _| ⟨a,_| ⟨b,l⟩⟩
 .exact aW _
 .refine aX (rH a) fun p=>?_;cases p with
  |none=>exact c
  |some p=>exact d _ _ _ _
 .exact aW _
def BH{Z:dX}{f:Fh->Addr->Nat->Nat->Sem vZ}(c:Lk P F Z z)(d:∀t a n m,Lk P F Z (f t a n m))(x:Ff):Lk P F Z (ReflectliteValue.methodAny z f x):=by
 have⟨l⟩:=x;rcases l with _| ⟨a,_| ⟨b,l⟩⟩
 .exact aW _
 .refine aX (vE a) fun p=>?_;cases p with
  |none=>exact c
  |some p=>exact d _ _ _ _
 .exact aW _
def yH{Z:dX}(t:Fh):Lk P F Z (do Rtype.noPackHeld "Comparable" t;pure (.bool (<-typeInfo t).comparable):Sem vZ):=
 aX (BG _ _) (fun _=>aX (gK _) (fun _=>aY _))
def ZM{Z:dX}(t:Fh):Lk P F Z (do pure (vB (<-Rtype.kind t)):Sem vZ):=aX (QF _) (fun _=>aY _)
end
end Go.Lift
namespace Go.Mark
section
open Go.Lift Go.Proofs Go.Proofs.Tryz
def shut(r:Array ResultVar):Func:={(default:Func) with name:= "shut",origin:= "shut",results:=r,body:=none}
noncomputable def pZ(f:Func):Bool:=f.name != "runtime.NumGoroutine" && (match f.body with|some b=>bQ Tryz.prog b|none=>false)
def wM:K4:=[132,142,257,258,259,287,288,289,362,381,382,383,384]
noncomputable def FQ:yg:=Tryz.prog.funcs.mapIdx fun i f=>if wM.contains i||pZ f then f else shut f.results
end
end Go.Mark
namespace Go.Proofs
section
open Go.Lift Go.Mark
open Tryz
noncomputable def zQ.prog:K5:=strip Tryz.prog FQ
def Ra:zQ.prog=strip Tryz.prog FQ:=rfl
end
end Go.Proofs
namespace Go.Mark
variable{f:Func}{n:Nat}
section
open Go.Lift Go.Proofs Go.Proofs.Tryz
def cM(D:Nat->Prop):dX:=⟨D,fun c=>bQ Tryz.prog c=true⟩
def qf:zQ.prog.funcs=FQ:=by rw[Ra]
def NW(h:Tryz.prog.funcs[n]?=some f):FQ[n]?=some (if wM.contains n||pZ f then f else shut f.results):=by simp only[FQ,aCQ,h,aAX]
def Fe(h:Tryz.prog.funcs[n]?=some f)(a:pZ f=true):zQ.prog.funcs[n]?=some f:=by rw[qf,NW h,a];simp
def uA(h:Tryz.prog.funcs[n]?=some f)(a:wM.contains n=true):zQ.prog.funcs[n]?=some f:=by rw[qf,NW h,a];simp
def UH(r:Array ResultVar):Extern.find (shut r)=none/\Extern.findNext (shut r)=none:=by constructor<;>kernel_rfl
def CK{a:Type}{P:K5}{F:yg}{Z:dX}{s:Sem a}(h:kW (strip P F) s):Lk P F Z s:=⟨fun _ v _ _ _ _ _ _=>.inl (h v)⟩
def vM{Q:K5}{f:Nat}{args:Ff}{r:Array ResultVar}(a:Q.funcs[f]?=some (shut r)):kW Q (callFunc f args):=by
 intro v;have⟨d,b⟩:=UH r;have c:((shut r).name== "runtime.NumGoroutine")=false:=rfl;have g:(shut r).body.isNone=true:=rfl;have h:((shut r).name.endsWith ".init" && !(shut r).name.startsWith "(" && !(shut r).name.startsWith "gosem.")=false:=kR
 have e:(callFunc f args).run Q v=.halt (.unsupported (.extern "shut")) v:=by unfold callFunc;simp only[Sem.run_bind,run_program,Result.andThen_ok,a,c,g,d,b,h];simp;rfl
 rw[e];exact trivial
end
end Go.Mark
