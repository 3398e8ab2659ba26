import Derived.Test.YtbephahokhnccaaGreatDoorXB7toC1
set_option linter.unusedSectionVars false
set_option maxRecDepth 100000
set_option maxHeartbeats 8000000
namespace Go.Proofs
abbrev Tryz.link : Go.Conc.Lib.WgLink:={ add:=143,done:=146,wait:=100,relMerge:=181,disable:=148,enable:=150,inBubble:=156,associate:=182,fatal:=183,uOr:=184,uAdd:=185,raceRead:=186,uLoad:=149,uStore:=187,disassociate:=154,semrelease:=188,acquire:=151,isAssociated:=152,uCas:=153,raceWrite:=155,semacquire:=157,orU64:=225,addU64:=226,loadU64:=189,storeU64:=227,casU64:=190,tWgP:=234,tUP:=238,tAssoc:=268,tWg:=189,tAU:=186,tU64:=39,tUint:=93,tU32:=187,tPU32:=242,tPAU:=274,tPU64:=276,tNoCopy:=182,tANoCopy:=183,tAlign64:=184 }
theorem Tryz.wgLib : Go.Conc.Lib.WgLib Tryz.prog Tryz.link :=
 ⟨Tryz.func143,Tryz.func146,Tryz.func100,Tryz.func181,Tryz.func148,Tryz.func150,Tryz.func156,Tryz.func182,Tryz.func183,Tryz.func184,Tryz.func185,Tryz.func186,Tryz.func149,Tryz.func187,Tryz.func154,Tryz.func188,Tryz.func151,Tryz.func152,Tryz.func153,Tryz.func155,Tryz.func157,Tryz.func225,Tryz.func226,Tryz.func189,Tryz.func227,Tryz.func190,Tryz.underlying234,Tryz.runUnderlying234,Tryz.sizeOf234,Tryz.isAgg234,Tryz.zeroValue234,Tryz.underlying238,Tryz.runUnderlying238,Tryz.sizeOf238,Tryz.isAgg238,Tryz.zeroValue238,Tryz.underlying268,Tryz.runUnderlying268,Tryz.sizeOf268,Tryz.isAgg268,Tryz.zeroValue268,Tryz.underlying189,Tryz.runUnderlying189,Tryz.sizeOf189,Tryz.isAgg189,Tryz.zeroValue189,Tryz.underlying186,Tryz.runUnderlying186,Tryz.sizeOf186,Tryz.isAgg186,Tryz.zeroValue186,Tryz.underlying39,Tryz.runUnderlying39,Tryz.sizeOf39,Tryz.isAgg39,Tryz.zeroValue39,Tryz.underlying93,Tryz.runUnderlying93,Tryz.sizeOf93,Tryz.isAgg93,Tryz.zeroValue93,Tryz.underlying187,Tryz.runUnderlying187,Tryz.sizeOf187,Tryz.isAgg187,Tryz.zeroValue187,Tryz.underlying242,Tryz.runUnderlying242,Tryz.sizeOf242,Tryz.isAgg242,Tryz.zeroValue242,Tryz.underlying274,Tryz.runUnderlying274,Tryz.sizeOf274,Tryz.isAgg274,Tryz.zeroValue274,Tryz.underlying276,Tryz.runUnderlying276,Tryz.sizeOf276,Tryz.isAgg276,Tryz.zeroValue276,Tryz.underlying0,Tryz.runUnderlying0,Tryz.sizeOf0,Tryz.isAgg0,Tryz.zeroValue0,Tryz.underlying3,Tryz.runUnderlying3,Tryz.sizeOf3,Tryz.isAgg3,Tryz.zeroValue3,Tryz.underlying4,Tryz.runUnderlying4,Tryz.sizeOf4,Tryz.isAgg4,Tryz.zeroValue4,Tryz.underlying9,Tryz.runUnderlying9,Tryz.sizeOf9,Tryz.isAgg9,Tryz.zeroValue9,Tryz.underlying20,Tryz.runUnderlying20,Tryz.sizeOf20,Tryz.isAgg20,Tryz.zeroValue20,Tryz.underlying21,Tryz.runUnderlying21,Tryz.sizeOf21,Tryz.isAgg21,Tryz.zeroValue21,by kernel_rfl,by kernel_rfl⟩
end Go.Proofs
namespace Go.Phase
open Go.Conc Go.Walk Go.Lift
open Go.ConcN (WgLive)
open Go.ConcR (Payload)
def Kk (w w' : World) (es : Array Event) : Prop:=w' = w /\ es = #[]
theorem envA [Payload] (c : Cfg) {X : World -> Prop} (hX : ∀ w w₁,X w -> R0 c w w₁ -> X w₁) : Env AtRel Kk (fun w=>X w /\ WgLive c.ty c.Wg w) :=
 ⟨fun w w₁ h r=>by obtain ⟨d,rfl⟩:=r; exact ⟨hX _ _ h.1 (R0.at w d),h.2⟩,fun w=>⟨rfl,rfl⟩⟩
end Go.Phase
namespace Go.Walk
open Go.Conc Go.Phase
section
variable {P : Program} {main : Bool} {R : World -> World -> Prop} {D : World -> World -> Array Event -> Prop} {Stop : Goroutine -> World -> Prop} {F : World -> Prop}
theorem Adj {g : Goroutine} {w : World} {n m : Nat} (h : Goes P main R D Stop n g w) (hm : n <= m) : Goes P main R D Stop m g w:=by
 induction hm with
 | refl=>exact h
 | step _ ih=>exact Goes.more ih
theorem K3 {gs : Goroutine} (hR : ∀ w,R w w) (hSt : ∀ g w,Stop g w -> ∃ g' w' es,stepG P main g w = .go g' w' es /\ es ≠ #[]) :
  ∀ (n N : Nat) (g : Goroutine) (w : World),Goes P main R Kk (fun g' _=>g' = gs) n g w -> Goes P main R D Stop N g w -> ∃ N',Goes P main R D Stop N' gs w
 | 0,N,g,w,hp,h=>by
  have : g = gs:=hp w (hR w)
  subst this
  exact ⟨N,h⟩
 | n + 1,N,g,w,hp,h=>by
  rcases hp with hp | ⟨_,hp⟩
  ·have : g = gs:=hp w (hR w)
   subst this
   exact ⟨N,h⟩
  ·replace hp:=hp w (hR w)
   generalize hst : stepG P main g w = st at hp
   cases st with
   | go g' w' es =>
    simp only [goes_go] at hp
    obtain ⟨⟨rfl,rfl⟩,hp⟩:=hp
    have no : ¬ Stop g w':=fun hs=>by
     obtain ⟨_,_,es,e,hne⟩:=hSt _ _ hs
     rw [hst] at e
     cases e
     exact hne rfl
    cases N with
    | zero=>exact absurd (h w' (hR w')) no
    | succ N =>
     rcases h with h | ⟨_,h⟩
     ·exact absurd (h w' (hR w')) no
     ·have h:=h w' (hR w')
      rw [hst] at h
      simp only [goes_go] at h
      exact K3 hR hSt n N g' w' hp h.2
   | _=>exact hp.elim
theorem Um {gs : Goroutine} (hcl : ∀ w w₁,F w -> R w w₁ -> F w₁) (hD : ∀ w,D w w #[]) {m : Nat} (hs : ∀ w,F w -> Goes P main R D Stop m gs w) (hRt : ∀ a b d,R a b -> R b d -> R a d) (hR : ∀ w,R w w) :
  ∀ (n : Nat) (g : Goroutine) (w : World),F w -> Goes P main R Kk (fun g' _=>g' = gs) n g w -> Goes P main R D Stop (n + m) g w
 | 0,g,w,hF,hp=>by
  have : g = gs:=hp w (hR w)
  subst this
  rw [Nat.zero_add]
  exact hs w hF
 | n + 1,g,w,hF,hp=>by
  rcases hp with hp | ⟨hr,hp⟩
  ·have : g = gs:=hp w (hR w)
   subst this
   exact Adj (hs w hF) (by omega)
  ·rw [show n + 1 + m = (n + m) + 1 by omega]
   refine Goes.step hr fun w₁ h₁=>?_
   have hp:=hp w₁ h₁
   generalize stepG P main g w₁ = st at hp
   cases st with
   | go g' w' es =>
    simp only [goes_go] at hp ⊢
    obtain ⟨⟨rfl,rfl⟩,hp⟩:=hp
    exact ⟨hD _,Um hcl hD hs hRt hR n g' w' (hcl _ _ hF h₁) hp⟩
   | _=>exact hp.elim
end
end Go.Walk
namespace Go.Phase
open Go.Conc Go.Walk Go.RowKit Go.Conc.Lib Go.ConcR.Gen Go.ConcN.Gen Go.Lift
open Go.ConcN (WgLive Has RW DWs AtR0 EvW)
open Go.ConcR (KK WgAt stA smA rd wr mk Payload)
variable [Payload] {L : WgLink}
theorem Zy {P : Program} (H : WgLib P L) {Wg : Nat} {F : World -> Prop} (hLive : ∀ w,F w -> WgLive L.tWg Wg w) {b₀ : Frame} {a₀ : Act} {ops₀ : Array Oper} {i₀ : Nat} {rest₀ : List Nat} {k₀ : List Item} {cs : List Frame} :
  ∃ gs g1 gd gdd,(∀ R : World -> World -> Prop,(∀ w w₁,F w -> R w w₁ -> F w₁) -> GoW P false R Kk (fun g _=>g = gs) F 60 (G ((base L.add).at ⟨#[.pointer (some ⟨Wg,0,none⟩),.int .i64 (-1)] ++ Array.replicate 115 ud,[]⟩ [.code (body_add L)]) (b₀.at a₀ (.inRegion ops₀ (i₀ :: rest₀) :: k₀) :: cs))) /\
   (gs.status = .running /\ ∀ w,F w -> stepG P false gs w = .go g1 w #[mk (.releaseMerge (stA Wg))]) /\
   (∀ R : World -> World -> Prop,(∀ w w₁,F w -> R w w₁ -> F w₁) -> GoW P false R Kk (fun g _=>g = gd) F 60 g1) /\ (∀ w,F w -> stepG P false gd w = .go gdd w #[mk .disable]):=by
 lib_facts
 simp only [body_add,addFn,Option.getD_some]
 walk_nrm
 apply Exists.intro; apply Exists.intro; apply Exists.intro; apply Exists.intro
 refine ⟨fun R hcl=>?_,⟨?_,fun w hF=>?_⟩,fun R hcl=>?_,fun w hF=>?_⟩
 ·have E : Env R Kk F:=⟨hcl,fun w=>⟨rfl,rfl⟩⟩
  repeat (first
   | refine Bj E ?_
   | refine Ah E ?_
   | refine Ar E ?_
   | refine Ay E ?_
   | refine Ck E ?_
   | refine A8 E rfl ?_
   | (refine Jl E rfl rfl (by k_ne) rfl rfl H.underlying_tWgP H.underlying_tUP H.room_tWg (fun w hF=>Acm (hLive w hF)) ?_; walk_nrm)
   | (refine A9 E rfl rfl (by k_ne) (fun w hF K hK=>?_); go_simp; refine hK _ (by simp [go_sem, *]) ?_; clear hK K hF w; try w_num))
  exact Bp E (fun w hF=>rfl)
 ·rfl
 ·exact stepG_markAt .releaseMerge (by simp) rfl rfl (by k_ne) rfl H.f_relMerge (x_relMerge_n L) (x_relMerge_b L) (x_relMerge_x L) (x_relMerge_f L) (ad:=⟨Wg,0,none⟩) (by simp [Act.eval])
 ·have E : Env R Kk F:=⟨hcl,fun w=>⟨rfl,rfl⟩⟩
  walk_nrm
  repeat (first
   | refine Bj E ?_
   | refine Ah E ?_
   | refine Ar E ?_
   | refine Ay E ?_
   | refine Ck E ?_
   | refine A8 E rfl ?_
   | (refine Jl E rfl rfl (by k_ne) rfl rfl H.underlying_tWgP H.underlying_tUP H.room_tWg (fun w hF=>Acm (hLive w hF)) ?_; walk_nrm)
   | (refine A9 E rfl rfl (by k_ne) (fun w hF K hK=>?_); go_simp; refine hK _ (by simp [go_sem, *]) ?_; clear hK K hF w; try w_num))
  exact Bp E (fun w hF=>rfl)
 ·exact stepG_mark0 .disable (by simp) rfl rfl (by k_ne) rfl H.f_disable (x_disable_n L) (x_disable_b L) (x_disable_x L) (x_disable_f L)
theorem Zz {P : Program} (H : WgLib P L) {Wg C n k : Nat} {val : Value} {b₀ : Frame} {a₀ : Act} {ops₀ : Array Oper} {i₀ : Nat} {rest₀ : List Nat} {k₀ : List Item} {cs : List Frame} {qt : Nat}
  (hT : QuitsD P qt 0 (G (b₀.at (a₀.put ((ops₀[i₀]?).bind (·.dst)) (.tuple #[])) (.inRegion ops₀ rest₀ :: k₀)) cs)) :
  ∃ gs,(∀ R : World -> World -> Prop,(∀ w w₁,(WgLive L.tWg Wg w /\ Has C (k - 1) val w) -> R w w₁ -> (WgLive L.tWg Wg w₁ /\ Has C (k - 1) val w₁)) -> GoW P false R Kk (fun g _=>g = gs) (fun w=>WgLive L.tWg Wg w /\ Has C (k - 1) val w) 60 (G ((base L.add).at ⟨#[.pointer (some ⟨Wg,0,none⟩),.int .i64 (-1)] ++ Array.replicate 115 ud,[]⟩ [.code (body_add L)]) (b₀.at a₀ (.inRegion ops₀ (i₀ :: rest₀) :: k₀) :: cs))) /\
   ∀ w,(WgLive L.tWg Wg w /\ Has C (k - 1) val w) -> AtR0 P L.tWg Wg C n 0 k val gs w:=by
 obtain ⟨gs,g1,gd,gdd,hp,⟨hrun,hgs⟩,hp1,hgd⟩:=Zy H (Wg:=Wg) (F:=fun w=>WgLive L.tWg Wg w /\ Has C (k - 1) val w) (fun w h=>h.1) (b₀:=b₀) (a₀:=a₀) (ops₀:=ops₀) (i₀:=i₀) (rest₀:=rest₀) (k₀:=k₀) (cs:=cs)
 refine ⟨gs,hp,fun w hF=>?_⟩
 have hA : Goes P false (RW L.tWg Wg C n 0 (k - 1)) (DWs Wg (fun _ _=>False) (fun _ _=>False) C n k) (AtR0 P L.tWg Wg C n 0 k val) 20 (G ((base L.add).at ⟨#[.pointer (some ⟨Wg,0,none⟩),.int .i64 (-1)] ++ Array.replicate 115 ud,[]⟩ [.code (body_add L)]) (b₀.at a₀ (.inRegion ops₀ (i₀ :: rest₀) :: k₀) :: cs)) w:=by
  walk_nrm
  exact addNegN H hT w hF
 have hcl : ∀ w w₁,(WgLive L.tWg Wg w /\ Has C (k - 1) val w) -> RW L.tWg Wg C n 0 (k - 1) w w₁ -> (WgLive L.tWg Wg w₁ /\ Has C (k - 1) val w₁):=fun w w₁ h r=>⟨r.live h.1,r.cell.trans h.2⟩
 have hrefl : ∀ w,RW L.tWg Wg C n 0 (k - 1) w w:=fun w=>⟨fun _ _ _ _=>rfl,id,id,rfl⟩
 have hSt : ∀ g w,AtR0 P L.tWg Wg C n 0 k val g w -> ∃ g' w' es,stepG P false g w = .go g' w' es /\ es ≠ #[]:=fun g w h=>by
  obtain ⟨_,_,g',e,_⟩:=h
  exact ⟨_,_,_,e,by simp⟩
 obtain ⟨N,hN⟩:=K3 hrefl hSt _ _ _ w (hp _ hcl w hF) hA
 have key : ∀ N',¬ Goes P false (RW L.tWg Wg C n 0 (k - 1)) (DWs Wg (fun _ _=>False) (fun _ _=>False) C n k) (AtR0 P L.tWg Wg C n 0 k val) N' g1 w:=fun N' h=>by
  obtain ⟨N2,h2⟩:=K3 hrefl hSt _ _ _ w (hp1 _ hcl w hF) h
  have no : ¬ AtR0 P L.tWg Wg C n 0 k val gd w:=fun hs=>by
   obtain ⟨_,_,g',e,_⟩:=hs
   rw [hgd w hF] at e
   simp [mk] at e
  cases N2 with
  | zero=>exact no (h2 w (hrefl w))
  | succ N2 =>
   rcases h2 with h2 | ⟨_,h2⟩
   ·exact no (h2 w (hrefl w))
   ·have h2:=h2 w (hrefl w)
    rw [hgd w hF] at h2
    simp only [goes_go] at h2
    exact (h2.1.2 (mk .disable) (by simp)).2.1 rfl
 cases N with
 | zero=>exact hN w (hrefl w)
 | succ N =>
  rcases hN with hN | ⟨_,hN⟩
  ·exact hN w (hrefl w)
  ·have hN:=hN w (hrefl w)
   rw [hgs w hF] at hN
   simp only [goes_go] at hN
   exact absurd hN.2 (key N)
end Go.Phase
namespace Go.Walk
open Go.Conc Go.Phase
section
variable {P : Program} {main : Bool} {R : World -> World -> Prop} {D : World -> World -> Array Event -> Prop} {Stop : Goroutine -> World -> Prop} {F : World -> Prop} {n : Nat} (E : Env R D F)
 {b : Frame} {a : Act} {k : List Item} {cs : List Frame} {ops : Array Oper} {i : Nat} {rest : List Nat} {o : Oper}
def El (f : FuncId) (caps : Array Value) : Deferred:={ target:=.fn (.func f) caps,args:=#[] }
theorem O9 {x : Operand} {f : FuncId} {caps : Array Value} {w : World} (ho : ops[i]? = some o) (hw : Region.wanted o (yielded ops a.tmps) = true) (hk : b.kind ≠ .early)
  (hop : o.op = .defer { callee:=.value x,args:=#[],argTypes:=#[] }) (hx : a.eval x = .func (.func f) #[] caps) :
  stepG P main (G (b.at a (.inRegion ops (i :: rest) :: k)) cs) w = .go (G (b.at (Act.put ⟨a.tmps,El f caps :: a.defers⟩ o.dst ud) (.inRegion ops rest :: k)) cs) w #[]:=by
 have hr : (execOp a.eval o).run P w = .ok (.defer (El f caps)) w:=by
  unfold execOp
  simp [hop,resolve,Deferred.ofValue,hx,El]
 have he : (execOp a.eval o).events P w #[] = #[]:=by
  unfold execOp
  simp [hop,resolve,Deferred.ofValue,hx]
 have hfin : (b.at ⟨a.tmps,El f caps :: a.defers⟩ (.inRegion ops (i :: rest) :: k)).finish ud = b.at (Act.put ⟨a.tmps,El f caps :: a.defers⟩ o.dst ud) (.inRegion ops rest :: k):=by rw [Frame.finish_at,ho]; rfl
 have hk' : (b.kind == CallKind.early) = false:=by simpa using hk
 rw [stepG_oper ho hw,<- hfin]
 simp [stepG.apply,hr,he,G,Frame.at,hk',GStep.after,seen_none]
theorem Nz {todo : List Item} {ds : List Deferred} {f : FuncId} {fn : Func} {caps : Array Value} {c : Code} {w : World} (hd : a.defers = El f caps :: ds) (hf : P.funcs[f]? = some fn) (hname : (fn.name == "runtime.NumGoroutine") = false) (hb : fn.body = some c) :
  stepG P main (G { b.at a todo with mode:=.returning } cs) w =
   .go (G ((baseD f).at { tmps:=caps ++ Array.replicate (fn.ntmps - caps.size) ud,defers:=[] } [.code c]) ({ b.at ⟨a.tmps,ds⟩ todo with mode:=.returning } :: cs)) w #[]:=by
 have h1 : ¬ fn.name = "runtime.NumGoroutine":=by simpa using hname
 rw [<- enter_atD caps hf hb]
 simp [G,stepG,unwind,callDeferred,Frame.at,hd,El,invoke,callFunc,hf,h1,hb,GStep.after,seen_none]
theorem Rf {x : Operand} {f : FuncId} {fn : Func} {caps : Array Value} {c : Code} {w : World} (ho : ops[i]? = some o) (hw : Region.wanted o (yielded ops a.tmps) = true) (hk : b.kind ≠ .early)
  (hop : o.op = .call { callee:=.value x,args:=#[],argTypes:=#[] }) (hx : a.eval x = .func (.func f) #[] caps) (hf : P.funcs[f]? = some fn) (hname : (fn.name == "runtime.NumGoroutine") = false) (hb : fn.body = some c) :
  stepG P main (G (b.at a (.inRegion ops (i :: rest) :: k)) cs) w = .go (G ((base f).at { tmps:=caps ++ Array.replicate (fn.ntmps - caps.size) ud,defers:=[] } [.code c]) (b.at a (.inRegion ops (i :: rest) :: k) :: cs)) w #[]:=by
 have h1 : ¬ fn.name = "runtime.NumGoroutine":=by simpa using hname
 have hr : (execOp a.eval o).run P w = .ok (.enter f caps) w:=by
  unfold execOp
  simp [hop,resolve,Deferred.ofValue,hx,invoke,callFunc,hf,h1,hb]
 have he : (execOp a.eval o).events P w #[] = #[]:=by
  unfold execOp
  simp [hop,resolve,Deferred.ofValue,hx,invoke,callFunc,hf,h1,hb]
 rw [stepG_enter ho hw hk hr,enter_at caps hf hb]
 unfold listed
 rw [he,seen_none]
theorem Mm {fr : Frame} {w : World} (ho : ops[i]? = some o) (hw : Region.wanted o (yielded ops a.tmps) = true) (hk : b.kind = .deferred)
  (hop : o.op = .call { callee:=.builtin .recover,args:=#[],argTypes:=#[] }) (hm : fr.mode = .returning) :
  stepG P main (G (b.at a (.inRegion ops (i :: rest) :: k)) (fr :: cs)) w = .go (G (b.at (a.put o.dst .nilIface) (.inRegion ops rest :: k)) (fr :: cs)) w #[]:=by
 have hr : (execOp a.eval o).run P w = .ok .recover w:=by
  unfold execOp
  simp [hop,resolve,go_sem]
 have he : (execOp a.eval o).events P w #[] = #[]:=by
  unfold execOp
  simp [hop,resolve,go_sem]
 have hfin : (b.at a (.inRegion ops (i :: rest) :: k)).finish .nilIface = b.at (a.put o.dst .nilIface) (.inRegion ops rest :: k):=by rw [Frame.finish_at,ho]; rfl
 rw [stepG_oper ho hw,<- hfin]
 simp [stepG.apply,hr,he,G,Frame.at,hk,tryRecover,hm,GStep.after,seen_none]
theorem Xb (E : Env R D F) {x : Operand} {f : FuncId} {caps : Array Value} (ho : ops[i]? = some o) (hw : Region.wanted o (yielded ops a.tmps) = true) (hk : b.kind ≠ .early)
  (hop : o.op = .defer { callee:=.value x,args:=#[],argTypes:=#[] }) (hx : a.eval x = .func (.func f) #[] caps)
  (h : GoW P main R D Stop F n (G (b.at (Act.put ⟨a.tmps,El f caps :: a.defers⟩ o.dst ud) (.inRegion ops rest :: k)) cs)) : GoW P main R D Stop F (n + 1) (G (b.at a (.inRegion ops (i :: rest) :: k)) cs):=C8 E rfl (fun _ _=>O9 ho hw hk hop hx) h
theorem Su (E : Env R D F) {todo : List Item} {ds : List Deferred} {f : FuncId} {fn : Func} {caps : Array Value} {c : Code} (hd : a.defers = El f caps :: ds) (hf : P.funcs[f]? = some fn) (hname : (fn.name == "runtime.NumGoroutine") = false) (hb : fn.body = some c)
  (h : GoW P main R D Stop F n (G ((baseD f).at { tmps:=caps ++ Array.replicate (fn.ntmps - caps.size) ud,defers:=[] } [.code c]) ({ b.at ⟨a.tmps,ds⟩ todo with mode:=.returning } :: cs))) :
  GoW P main R D Stop F (n + 1) (G { b.at a todo with mode:=.returning } cs):=C8 E rfl (fun _ _=>Nz hd hf hname hb) h
theorem Zo (E : Env R D F) {x : Operand} {f : FuncId} {fn : Func} {caps : Array Value} {c : Code} (ho : ops[i]? = some o) (hw : Region.wanted o (yielded ops a.tmps) = true) (hk : b.kind ≠ .early)
  (hop : o.op = .call { callee:=.value x,args:=#[],argTypes:=#[] }) (hx : a.eval x = .func (.func f) #[] caps) (hf : P.funcs[f]? = some fn) (hname : (fn.name == "runtime.NumGoroutine") = false) (hb : fn.body = some c)
  (h : GoW P main R D Stop F n (G ((base f).at { tmps:=caps ++ Array.replicate (fn.ntmps - caps.size) ud,defers:=[] } [.code c]) (b.at a (.inRegion ops (i :: rest) :: k) :: cs))) : GoW P main R D Stop F (n + 1) (G (b.at a (.inRegion ops (i :: rest) :: k)) cs):=C8 E rfl (fun _ _=>Rf ho hw hk hop hx hf hname hb) h
theorem Ab6 (E : Env R D F) {fr : Frame} (ho : ops[i]? = some o) (hw : Region.wanted o (yielded ops a.tmps) = true) (hk : b.kind = .deferred)
  (hop : o.op = .call { callee:=.builtin .recover,args:=#[],argTypes:=#[] }) (hm : fr.mode = .returning) (h : GoW P main R D Stop F n (G (b.at (a.put o.dst .nilIface) (.inRegion ops rest :: k)) (fr :: cs))) :
  GoW P main R D Stop F (n + 1) (G (b.at a (.inRegion ops (i :: rest) :: k)) (fr :: cs)):=C8 E rfl (fun _ _=>Mm ho hw hk hop hm) h
theorem Cb (E : Env R D F) {v : Value} (ho : ops[i]? = some o) (hw : Region.wanted o (yielded ops a.tmps) = true) (hk : b.kind ≠ .early) (hr : ∀ w,F w -> (execOp a.eval o).run P w = .ok (.value v) w) (hD : ∀ w,F w -> D w w (listed P b.fn a o w))
  (h : GoW P main R D Stop F n (G (b.at (a.put o.dst v) (.inRegion ops rest :: k)) cs)) : GoW P main R D Stop F (n + 1) (G (b.at a (.inRegion ops (i :: rest) :: k)) cs) :=
 fun _ hw'=>Goes.step rfl fun w₁ h₁=>by
  have hF:=E.cl _ _ hw' h₁
  rw [stepG_value ho hw hk (hr w₁ hF)]
  exact ⟨hD w₁ hF,h _ hF⟩
theorem Cm (_ : Env R D F) {g : Goroutine} {m : Nat} (h : GoW P main R D Stop F n g) (hm : n <= m) : GoW P main R D Stop F m g:=fun w hw=>Adj (h w hw) hm
end
theorem Au {P : Program} {o : Oper} {ev : Operand -> Value} {t : TypeId} {x : Operand} {ad : Addr} {v : Value} {w : World} (hop : o.op = .load t x) (hx : ev x = .pointer (some ad)) (hz : ∀ w,Sem.run P (Go.sizeOf t) w = .ok 1 w) (ha : ∀ w,Sem.run P (isAgg t) w = .ok false w) (hc : w.cell? ad = some v) :
  (execOp ev o).run P w = .ok (.value v) w /\ (execOp ev o).events P w #[] = #[⟨.cell ad,false,false⟩]:=by
 unfold execOp
 simp only [hop,hx]
 constructor
 ·simp [go_sem,hz,ha,hc]
 ·simp [go_sem,hz,ha,hc]
end Go.Walk
namespace Go.Mark
open Go.Conc Go.Walk Go.Phase Go.RowKit Go.Conc.Lib Go.ConcR.Gen Go.ConcN.Gen Go.Lift Go.Proofs
open Go.ConcN (WgLive Has RW DWs AtR0 PayAt)
open Go.ConcR (KK WgAt stA smA rd wr mk Payload)
instance : Payload:=⟨132⟩
abbrev pt (b : Nat) : Value:=.pointer (some ⟨b,0,none⟩)
noncomputable def bot : Frame:={ (default : Frame) with fn:=Tryz.prog.funcs.size,defers:=[],mode:=.panicking [goexitEntry] }
structure IsC (c : Cfg) : Prop where
 P : c.P = Tryz.prog
 ty : c.ty = 189
 tb : c.tb = 4
 geo : Geo c
structure Box (c : Cfg) (Low b : Nat) : Prop where
 lo : c.base <= b
 hi : b < Low
 wg : b ≠ c.Wg
 cc : b ≠ c.C
theorem cell_of {w : World} {b : Nat} {v : Value} {e : TypeId} {f : Nat × Nat} (h : w.heap[b]? = some (.cells #[v] e f)) : w.cell? ⟨b,0,none⟩ = some v:=by simp [World.cell?,h]
theorem Xg {c : Cfg} (I : IsC c) {w : World} {b : Nat} {x : Array Value} {e : TypeId} {f : Nat × Nat} (h : w.heap[b]? = some (.cells x e f)) (he : e ≠ 4) : ¬ IsB c w b:=by
 rintro ⟨x',f',h'⟩
 rw [h] at h'
 simp only [Option.some.injEq,Obj.cells.injEq] at h'
 rw [I.tb] at h'
 exact he h'.2.1
theorem Mt {c : Cfg} (I : IsC c) {Low i b : Nat} {own : Nat -> Prop} {w w₁ : World} {x : Array Value} {e : TypeId} {f : Nat × Nat} (B : Box c Low b) (r : RX c Low i own w w₁) (h : w.heap[b]? = some (.cells x e f)) (he : e ≠ 4) : w₁.heap[b]? = some (.cells x e f) :=
 (r.keep b B.hi B.wg B.cc (Xg I h he)).trans h
theorem Ado {c : Cfg} (I : IsC c) {Low b k : Nat} {w : World} {x : Array Value} {e : TypeId} {f : Nat × Nat} (B : Box c Low b) (h : w.heap[b]? = some (.cells x e f)) (he : e ≠ 4) : EvR c Low w ⟨.cell ⟨b,k,none⟩,false,false⟩ :=
 .inl ⟨⟨b,k,none⟩,rfl,B.lo,B.hi,B.wg,B.cc,Xg I h he⟩
theorem Xl {c : Cfg} {w : World} (bb off : Nat) (v : Value) (h : Tidy c w) : Tidy c (w.setCell ⟨bb,off,none⟩ v):=fun b o hb ho=>by
 by_cases e : b = bb
 ·subst e
  cases hw : w.heap[b]? with
  | none =>
   have : (w.setCell ⟨b,off,none⟩ v).heap[b]? = none:=by
    rw [Array.getElem?_eq_none_iff] at hw ⊢
    rw [(aside_setCell w ⟨b,off,none⟩ v).size]
    exact hw
   rw [this] at ho
   cases ho
  | some o' =>
   obtain ⟨x,e,rfl⟩:=h _ _ hb hw
   rw [setCell_eq_setRow w b off x e (0,0) v hw,setRow_heap w b _ _ _ _ hw] at ho
   cases ho
   exact ⟨_,_,rfl⟩
 ·rw [(aside_setCell w ⟨bb,off,none⟩ v).block b e] at ho
  exact h b o hb ho
section
variable {c : Cfg} (I : IsC c) {Low i b bw : Nat} {val : Value}
theorem Aak (w : World) : DB c Low b i w w #[]:=⟨rfl,fun _ _ _=>rfl,id,id,fun _ _=>rfl,(fun e he=>by simp at he),id,rfl,rfl⟩
theorem Ld {w : World} {es : Array Event} (h : ∀ e ∈ es,EvR c Low w e) : DB c Low b i w w es:=⟨rfl,fun _ _ _=>rfl,id,id,fun _ _=>rfl,fun e he=>.inl (h e he),id,rfl,rfl⟩
structure FT (c : Cfg) (i b bw : Nat) (val : Value) (w : World) : Prop where
 live : WgLive 189 c.Wg w
 has : Has c.C i val w
 wv : w.heap[bw]? = some (.cells #[pt c.Wg] 234)
 out : c.Out i b w
theorem FT.rely (I : IsC c) (B : Box c Low bw) {w w₁ : World} (h : FT c i b bw val w) (r : RX c Low i (· = b) w w₁) : FT c i b bw val w₁ :=
 ⟨by have:=r.live; rw [I.ty] at this; exact this h.live,r.cell.trans h.has,Mt I B r h.wv (by decide),I.geo.out i b _ _ (r.mine b rfl) r.cell h.out⟩
theorem envT (I : IsC c) (B : Box c Low bw) : Env (RX c Low i (· = b)) (DB c Low b i) (FT c i b bw val):=⟨fun _ _ h r=>h.rely I B r,fun w=>Aak w⟩
theorem Aj6 (I : IsC c) (B : Box c Low bw) {b₀ : Frame} {a₀ : Act} {ops₀ : Array Oper} {i₀ : Nat} {rest₀ : List Nat} {k₀ : List Item} {cs : List Frame} {qt : Nat}
  (hT : QuitsD Tryz.prog qt 0 (G (b₀.at (a₀.put ((ops₀[i₀]?).bind (·.dst)) (.tuple #[])) (.inRegion ops₀ rest₀ :: k₀)) cs)) :
  GoW Tryz.prog false (RX c Low i (· = b)) (DB c Low b i) (K8 c i b) (FT c i b bw val) 60 (G ((base 143).at ⟨#[pt c.Wg,.int .i64 (-1)] ++ Array.replicate 115 ud,[]⟩ [.code (body_add Tryz.link)]) (b₀.at a₀ (.inRegion ops₀ (i₀ :: rest₀) :: k₀) :: cs)):=by
 obtain ⟨gs,hp,hR0⟩:=Zz Tryz.wgLib (Wg:=c.Wg) (C:=c.C) (n:=c.n) (k:=i + 1) (val:=val) hT
 intro w hF
 have hcl0 : ∀ w w₁,(WgLive 189 c.Wg w /\ Has c.C (i + 1 - 1) val w) -> RX c Low i (· = b) w w₁ -> (WgLive 189 c.Wg w₁ /\ Has c.C (i + 1 - 1) val w₁):=fun w w₁ h r =>
  ⟨by have:=r.live; rw [I.ty] at this; exact this h.1,r.cell.trans h.2⟩
 refine Um (F:=FT c i b bw val) (fun _ _ h r=>h.rely I B r) (fun w=>Aak w) (m:=0) (fun w hF=>?_) (fun _ _ _ h k=>h.trans k) (fun w=>RX.refl w) 60 _ w hF (hp _ hcl0 w ⟨hF.live,hF.has⟩)
 refine Goes.stop fun w₁ h₁=>?_
 have hF1:=hF.rely I B h₁
 refine ⟨⟨val,?_⟩,hF1.out⟩
 rw [I.P,I.ty]
 exact hR0 w₁ ⟨hF1.live,hF1.has⟩
theorem Aeo (T : Array Value) : QuitsD Tryz.prog 2 0 (G { (baseD 144).at ⟨T,[]⟩ [] with mode:=.returning } [bot]):=by
 refine QuitsD.ctl (g':=G bot []) rfl (fun w=>?_) ?_
 ·simp [G,stepG,unwind,doReturn,results,Frame.at,baseD,bot,Tryz.func144,Tryz.f144,seen,GStep.after,goexitEntry]
 refine QuitsD.ctl (g':={ G bot [] with status:=.finished }) rfl (fun w=>?_) ⟨rfl,rfl⟩
 simp [G,stepG,unwind,bot,goexitEntry,Frame.catches]
 rfl
theorem put_defers (T : Array Value) (ds : List Deferred) (x : Option Tmp) (v : Value) : (Act.put ⟨T,ds⟩ x v).defers = ds:=by cases x <;> rfl
theorem Af6 (w : World) (d : Nat) : (Op.equalIn (d + 1) 20 .nilIface .nilIface).events Tryz.prog w #[] = #[]:=by
 unfold Op.equalIn
 simp [go_sem]
theorem Aca (w : World) : (binOp .neq 20 .nilIface .nilIface).events Tryz.prog w #[] = #[]:=by
 simp [binOp,Op.equal,go_sem]
 exact Af6 w 9999
theorem nm48 : (Tryz.f145.name == "runtime.NumGoroutine") = false:=by kernel_rfl
theorem nm37 : (Tryz.f98.name == "runtime.NumGoroutine") = false:=by kernel_rfl
theorem Akc : (Tryz.f99.name == "runtime.NumGoroutine") = false:=by kernel_rfl
theorem nm50 : (Tryz.f147.name == "runtime.NumGoroutine") = false:=by kernel_rfl
theorem tail (I : IsC c) (B : Box c Low bw) {T37 T47 : Array Value} {ops : Array Oper} {i₀ : Nat} :
  GoW Tryz.prog false (RX c Low i (· = b)) (DB c Low b i) (K8 c i b) (FT c i b bw val) 120 (G ((base 98).at ⟨T37,[]⟩ []) [(baseD 144).at ⟨T47,[El 145 #[pt bw]]⟩ [.inRegion ops [i₀]],bot]):=by
 have E:=envT (b:=b) (i:=i) (val:=val) I B
 have hnil:=Aca
 have dbox : ∀ w,FT c i b bw val w -> ∀ {fn a o},(execOp a.eval o).events Tryz.prog w #[] = #[⟨.cell ⟨bw,0,none⟩,false,false⟩] -> DB c Low b i w w (listed Tryz.prog fn a o w):=fun w hF fn a o he =>
  Ld fun e hm=>by
   have hm:=mem_listed hm
   rw [he,Array.mem_singleton] at hm
   subst hm
   exact Ado I B hF.wv (by decide)
 refine Aah E ?_
 refine Gj E rfl rfl Tryz.func98 rfl ?_
 refine Ah E ?_
 refine Aah E ?_
 refine Su E (put_defers _ _ _ _) Tryz.func145 nm48 rfl ?_
 generalize (Act.put ⟨T47,[El 145 #[pt bw]]⟩ ((ops[i₀]?).bind (·.dst)) (.tuple #[])).tmps = T
 simp only [Tryz.f145]
 walk_nrm
 repeat (first
  | refine Bj E ?_
  | refine Co E ?_
  | refine Ah E ?_
  | refine Ay E ?_
  | refine Bg E rfl ?_
  | refine Bg E (by simp [Act.eval]; omega) ?_
  | (refine Ab6 E rfl rfl rfl rfl rfl ?_; walk_nrm)
  | (refine Cb E rfl rfl (by k_ne) (fun w hF=>(Au rfl rfl Tryz.sizeOf234 Tryz.isAgg234 (cell_of hF.wv)).1) (fun w hF=>dbox w hF (Au rfl rfl Tryz.sizeOf234 Tryz.isAgg234 (cell_of hF.wv)).2) ?_; walk_nrm)
  | (refine Df E rfl rfl (by k_ne) rfl Tryz.wgLib.f_done (nm_done Tryz.link) rfl ?_; walk_nrmf doneFn)
  | (refine A9 E rfl rfl (by k_ne) (fun w hF K hK=>?_); go_simp; refine hK _ (by simp [go_sem, *]) ?_; clear hK K hF w; try w_num))
 refine Df E rfl rfl (by k_ne) rfl Tryz.wgLib.f_add (nm_add Tryz.link) (c:=body_add Tryz.link) rfl ?_
 refine Cm E (n:=60) ?_ (by omega)
 walk_nrm
 rw [show (addFn Tryz.link).ntmps - 2 = 115 from rfl]
 refine Aj6 (qt:=8) I B ?_
 q_c stepG_region_end
 q_c stepG_end
 q_leave0 Tryz.wgLib.f_done
 q_c stepG_region_end
 q_c stepG_end
 exact QuitsD.leaveD rfl rfl Tryz.func145 rfl rfl (Aeo _)
end
end Go.Mark
