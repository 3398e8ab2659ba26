import Derived.Test.YtbephahokhnccaaGreatDoorXB3toB4
set_option linter.unusedSectionVars false
set_option maxHeartbeats 1600000
namespace Go.Phase
open Go.Conc Go.Lift
open Go.ConcN (WgLive PayAt Has AtR0 AtK1 WSit RW CTag CT RelBy WD upd upd_same upd_ne Vc Ssum Fsum phi pend cnt sumTo OpenSt isW3 Vc_upd Vc_le le_sumTo)
open Go.ConcR (KK wgBlock WgAt stA smA rd wr mk Payload Bk g_of_ofEvents)
variable [Payload]
theorem Tt {J k q : Nat} {D : Nat -> WD} (h : OpenSt J D) : OpenSt J (upd D k ⟨1,q,1⟩):=fun a ha=>by
 by_cases e : a = k
 ·subst e; rw [upd_same]; exact .inr (.inr (.inr rfl))
 ·rw [upd_ne D _ e]; exact h a ha
theorem Q9 {J k q : Nat} {D : Nat -> WD} (hk : k < J) (hc : cnt (D k) = 1) : Vc J (upd D k ⟨1,q,1⟩) + 1 = Vc J D:=by
 have:=Vc_upd D (⟨1,q,1⟩ : WD) hk
 have : cnt (⟨1,q,1⟩ : WD) = 0:=rfl
 omega
theorem Aij {J k : Nat} {D : Nat -> WD} (hk : k < J) (hc : cnt (D k) = 1) (h1 : Vc J D = 1) (ho : OpenSt J D) : ∀ a,a < J -> a ≠ k -> (D a).stage = 1:=fun a ha e=>by
 have c0:=Go.ConcN.others_uncounted hk h1 hc a ha e
 have:=ho a ha
 simp only [cnt] at c0
 split at c0 <;> omega
theorem Nh {J k s m : Nat} {D : Nat -> WD} {tag : CTag} (hW : isW3 tag) (hk : k < J) (hs : s = 4 \/ s = 3 \/ s = 2) (ho : ∀ a,a < J -> a ≠ k -> (D a).stage = 1) : Go.ConcN.Mode J (upd D k ⟨s,m,1⟩) tag (if s = 2 then 0 else 1) 0:=by
 have:=Go.ConcN.Mode.last (j:=J) (D:=upd D k ⟨s,m,1⟩) (tag:=tag) k hW hk (by rw [upd_same]; exact hs) (fun a ha e=>by rw [upd_ne D _ e]; exact ho a ha e)
 rwa [upd_same] at this
section
variable {c : Cfg} {w0 w : World} {t0 t : Trace} {Low j : Nat} {gs : Array Goroutine} {sl : Option (Nat × Nat)} {D : Nat -> WD} {Lw : Nat -> Nat} {Bo : Nat -> Option Nat} {RB : Nat -> Nat -> Prop} {tag : CTag} {f0 d0 : Nat} {a : Goroutine} {st sm : Int}
theorem Aea (G : Geo c) (hn : c.o + c.n < 2147483647) (ha : gs[0]? = some a) (hcs : CX c Low tag j f0 d0 a w) (hcom : Com c w0 t0 Low j gs w t D Lw Bo RB d0) (hwg : WgAt c.ty c.Wg w st sm) (hmode : Go.ConcN.Mode (c.o + j) D tag st sm) {i : Nat} (hi : i < j) {g : Goroutine} (hg : gs[c.o + i + 1]? = some g) (hrun : g.status = .running)
  {b : Nat} (hbo : Bo i = some b) {v : Value} {s m dd : Nat} (hst : (D (c.o + i)).stage = s) (hfu : (D (c.o + i)).fuel = m) (hde : (D (c.o + i)).deaf = dd) (h6 : s <= 6) (hs : WSit c.P c.ty c.Wg c.C c.n (fun _ _=>False) (fun _ _=>False) 0 (i + 1) v s m dd g w) (hout : c.Out i b w) :
  Gm c w0 t0 t (phi (c.o + c.n) (Vc (c.o + j) D) tag + Ssum (c.o + j) D,f0 + 2 * Fsum (c.o + j) D) (runT c.P (crowd gs w sl) (c.o + i + 1)):=by
 have hk : c.o + i < c.o + j:=by omega
 have hbnd:=hcs.bound
 have hVj:=Vc_le (c.o + j) D
 have hdk : Deaf t (c.o + i + 1) = dd:=by rw [hcom.deafW _ hk,hde]
 -- a step of the library's bookkeeping
 have bookG : ∀ {g' : Goroutine} {w' : World} {es : Array Event} {s' m' dd' : Nat} {st' sm' : Int},stepG c.P false g w = .go g' w' es -> Aside c.Wg w w' -> WgAt c.ty c.Wg w' st' sm' -> (∀ e ∈ es,Bk c.Wg e) ->
   (∀ jx e,es[jx]? = some e -> (MemAct.ofEvent e).touch? = none \/ 0 < deafBehind dd (es.extract 0 jx)) -> WSit c.P c.ty c.Wg c.C c.n (fun _ _=>False) (fun _ _=>False) 0 (i + 1) v s' m' dd' g' w' -> s' <= 6 -> deafBehind dd es = dd' ->
   (∀ tag',(tag' = tag \/ (tag = .blk /\ tag' = .w3)) -> (mayWake c.P g = true -> g'.status = .running -> tag' ≠ .blk) -> Go.ConcN.Mode (c.o + j) (upd D (c.o + i) ⟨s',m',dd'⟩) tag' st' sm') -> ((s' < s /\ cnt ⟨s',m',dd'⟩ <= cnt (D (c.o + i))) \/ (s' = s /\ m' + 1 = m)) ->
   Gm c w0 t0 t (phi (c.o + c.n) (Vc (c.o + j) D) tag + Ssum (c.o + j) D,f0 + 2 * Fsum (c.o + j) D) (runT c.P (crowd gs w sl) (c.o + i + 1)):=by
  intro g' w' es s' m' dd' st' sm' hgo hA hwg' hbk hd hs' hs6 hdd hmode' hlt
  obtain ⟨t1,t2,t3,t4,t5⟩:=Acv G hcom hA ⟨_,_,hwg'⟩
  refine Fq (Bo':=Bo) (x:=⟨s',m',dd'⟩) G ha hcs hk hg hgo t1 (hcom.stepW G hi t2 t3 (fun i' h1 _=>t4 i' h1) ?_ (fun _ _=>rfl) (fun _ h=>h) (fun b' hb=>⟨.inl hb,(hcom.bs i b' hb).2.1,t2.isb b' (hcom.bs i b' hb).2.2⟩) (fun e he=>.inr (.inr (.inl (hbk e he)))) ?_ (fun _=>?_) t5 ⟨_,_,hwg'⟩) hwg' hmode' ?_
  ·rw [hbo]
   exact .c (v:=v) hs6 hs' (G.out i b w w' ((t4 i hi).mine b hbo) (t4 i hi).cell hout)
  ·rw [hde]; exact hdd
  ·obtain ⟨r,hr⟩:=hcom.rel i hi (by omega)
   exact ⟨r,hr.book hdk _ _ hbk hd⟩
  ·rw [hst,hfu]
   rcases hlt with h | ⟨h1,h2⟩
   ·exact .inl h
   ·exact .inr ⟨h1,by simp only; omega⟩
 have book : ∀ {g' : Goroutine} {w' : World} {es : Array Event} {s' m' dd' : Nat} {st' sm' : Int},stepG c.P false g w = .go g' w' es -> Aside c.Wg w w' -> WgAt c.ty c.Wg w' st' sm' -> (∀ e ∈ es,Bk c.Wg e) ->
   (∀ jx e,es[jx]? = some e -> (MemAct.ofEvent e).touch? = none \/ 0 < deafBehind dd (es.extract 0 jx)) -> WSit c.P c.ty c.Wg c.C c.n (fun _ _=>False) (fun _ _=>False) 0 (i + 1) v s' m' dd' g' w' -> s' <= 6 -> deafBehind dd es = dd' ->
   Go.ConcN.Mode (c.o + j) (upd D (c.o + i) ⟨s',m',dd'⟩) tag st' sm' -> ((s' < s /\ cnt ⟨s',m',dd'⟩ <= cnt (D (c.o + i))) \/ (s' = s /\ m' + 1 = m)) ->
   Gm c w0 t0 t (phi (c.o + c.n) (Vc (c.o + j) D) tag + Ssum (c.o + j) D,f0 + 2 * Fsum (c.o + j) D) (runT c.P (crowd gs w sl) (c.o + i + 1)) :=
  fun hgo hA hwg' hbk hd hs' hs6 hdd hm hlt=>bookG hgo hA hwg' hbk hd hs' hs6 hdd (fun _ ht _=>hm.retag ht) hlt
 have idle : ∀ {g' : Goroutine} {m' : Nat},stepG c.P false g w = .go g' w #[] -> WSit c.P c.ty c.Wg c.C c.n (fun _ _=>False) (fun _ _=>False) 0 (i + 1) v s m' dd g' w -> m' + 1 = m ->
   Gm c w0 t0 t (phi (c.o + c.n) (Vc (c.o + j) D) tag + Ssum (c.o + j) D,f0 + 2 * Fsum (c.o + j) D) (runT c.P (crowd gs w sl) (c.o + i + 1)):=by
  intro g' m' hgo hs' hm
  refine book hgo (.refl c.Wg w) hwg (by simp) (by simp) hs' h6 rfl ?_ (.inr ⟨rfl,hm⟩)
  have:=hmode.same (i:=c.o + i) m' dd
  rwa [hst] at this
 have one : ∀ {e0 : Event} {d : Nat} {jx : Nat} {e : Event},(#[e0] : Array Event)[jx]? = some e -> 0 < d -> (MemAct.ofEvent e).touch? = none \/ 0 < deafBehind d ((#[e0] : Array Event).extract 0 jx):=by
  intro e0 d jx e he hd
  match jx,he with
  | 0,_=>exact .inr (by simpa [deafBehind] using hd)
  | jx + 1,he=>simp at he
 cases hs with
 | r0 h=>omega
 | k1 h =>
  rcases Goes.cases h with hstop | ⟨m',rfl,hstep⟩
  ·obtain ⟨_,g',hgo,m₂,hk'⟩:=hstop w (RW.refl w)
   refine book hgo (.refl c.Wg w) hwg (by intro e he; simp at he; subst he; exact .inl rfl) ?_ (.d1 hk') (by omega) rfl (hmode.counted hk (by omega) (.inr rfl) _ _) (.inl ⟨by omega,by simp [cnt,hst]⟩)
   intro jx e he
   have:=Array.mem_of_getElem? he
   simp at this
   subst this
   exact .inl rfl
  ·obtain ⟨g',w',es,hgo,⟨rfl,rfl⟩,hg'⟩:=hstep w (RW.refl w)
   exact idle hgo (.k1 hg') rfl
 | d1 h =>
  rcases Goes.cases h with hstop | ⟨m',rfl,hstep⟩
  ·obtain ⟨_,hall⟩:=hstop w (RW.refl w)
   have hc1 : cnt (D (c.o + i)) = 1:=by simp [cnt,hst]
   have hV1 : 1 <= Vc (c.o + j) D:=by have:=le_sumTo (f:=fun x=>cnt (D x)) hk; simp only [Vc]; omega
   have bk2 : ∀ e ∈ #[rd (stA c.Wg),wr (stA c.Wg)],Bk c.Wg e:=Go.ConcN.bk_rw
   have df2 : ∀ jx e,(#[rd (stA c.Wg),wr (stA c.Wg)] : Array Event)[jx]? = some e -> (MemAct.ofEvent e).touch? = none \/ 0 < deafBehind 1 ((#[rd (stA c.Wg),wr (stA c.Wg)] : Array Event).extract 0 jx):=by
    intro jx e he
    match jx,he with
    | 0,_=>exact .inr (by simp [deafBehind])
    | 1,_=>exact .inr (by simp [deafBehind,rd])
    | jx + 2,he=>simp at he
   cases hmode with
   | opn h1 h2 h3 =>
    obtain ⟨u,hu⟩ : ∃ u,Vc (c.o + j) D + pend tag = u + 1:=⟨Vc (c.o + j) D + pend tag - 1,by omega⟩
    rw [hu] at hwg
    obtain ⟨g',hgo,_,hq⟩:=hall u 0 (by omega) (by omega) (by simpa using hwg)
    obtain ⟨q,hq⟩:=hq (by omega)
    have hd:=Q9 (q:=q) hk hc1
    refine book hgo (aside_setCell w (stA c.Wg) _) (hwg.setSt _) bk2 df2 (.quit hq) (by omega) rfl ?_ (.inl ⟨by omega,by simp [cnt]⟩)
    have e : ((u : Nat) : Int) * KK + ((0 : Nat) : Int) = ((Vc (c.o + j) (upd D (c.o + i) ⟨1,q,1⟩) + pend tag : Nat) : Int) * KK:=by
     rw [show Vc (c.o + j) (upd D (c.o + i) ⟨1,q,1⟩) + pend tag = u by omega]; simp
    rw [e]
    exact .opn h1 (Tt h2) (fun vs ev=>by have:=h3 vs ev; omega)
   | reg h1 h2 h3 =>
    obtain ⟨u,hu⟩ : ∃ u,Vc (c.o + j) D = u + 1:=⟨Vc (c.o + j) D - 1,by omega⟩
    rw [hu] at hwg
    obtain ⟨g',hgo,hl,hq⟩:=hall u 1 (by omega) (by omega) (by simpa using hwg)
    by_cases hu0 : u = 0
    ·subst hu0
     obtain ⟨m₂,hk'⟩:=hl ⟨rfl,rfl⟩
     refine book hgo (aside_setCell w (stA c.Wg) _) (hwg.setSt _) bk2 df2 (.d2 hk') (by omega) rfl ?_ (.inl ⟨by omega,by simp [cnt]⟩)
     simpa using Nh (s:=4) (m:=m₂) h1 hk (by omega) (Aij hk hc1 (by omega) h2)
    ·obtain ⟨q,hq⟩:=hq (by omega)
     have hd:=Q9 (q:=q) hk hc1
     refine book hgo (aside_setCell w (stA c.Wg) _) (hwg.setSt _) bk2 df2 (.quit hq) (by omega) rfl ?_ (.inl ⟨by omega,by simp [cnt]⟩)
     have e : ((u : Nat) : Int) * KK + ((1 : Nat) : Int) = ((Vc (c.o + j) (upd D (c.o + i) ⟨1,q,1⟩) : Nat) : Int) * KK + 1:=by
      rw [show Vc (c.o + j) (upd D (c.o + i) ⟨1,q,1⟩) = u by omega]; simp
     rw [e]
     exact .reg h1 (Tt h2) (by omega)
   | last L _ h2 h3 h4 =>
    by_cases e : c.o + i = L
    ·subst e; omega
    ·have:=h4 _ hk e; omega
   | sema h2=>have:=h2 _ hk; omega
   | fin _ h2=>have:=h2 _ hk; omega
  ·obtain ⟨g',w',es,hgo,⟨rfl,rfl⟩,hg'⟩:=hstep w (RW.refl w)
   exact idle hgo (.d1 hg') rfl
 | d2 h =>
  rcases Goes.cases h with hstop | ⟨m',rfl,hstep⟩
  ·obtain ⟨_,hx⟩:=hstop w (RW.refl w)
   obtain ⟨hW3,hoth,rfl,rfl⟩:=hmode.isLast hk (by omega)
   simp only [hst] at hwg
   obtain ⟨g',hgo,m₂,hk'⟩:=hx (by simpa using hwg)
   refine book hgo (.refl c.Wg w) hwg Go.ConcN.bk_rd (fun jx e he=>one he (by omega)) (.d3 hk') (by omega) rfl ?_ (.inl ⟨by omega,by simp [cnt]⟩)
   simpa using Nh (s:=3) (m:=m₂) hW3 hk (by omega) hoth
  ·obtain ⟨g',w',es,hgo,⟨rfl,rfl⟩,hg'⟩:=hstep w (RW.refl w)
   exact idle hgo (.d2 hg') rfl
 | d3 h =>
  rcases Goes.cases h with hstop | ⟨m',rfl,hstep⟩
  ·obtain ⟨_,hx⟩:=hstop w (RW.refl w)
   obtain ⟨hW3,hoth,rfl,rfl⟩:=hmode.isLast hk (by omega)
   simp only [hst] at hwg
   obtain ⟨g',hgo,m₂,hk'⟩:=hx (by simpa using hwg)
   refine book hgo (aside_setCell w (stA c.Wg) _) (hwg.setSt 0) (by intro e he; simp at he; subst he; exact Go.ConcN.bk_cell _ _ rfl) (fun jx e he=>one he (by omega)) (.d4 hk') (by omega) rfl ?_ (.inl ⟨by omega,by simp [cnt]⟩)
   simpa using Nh (s:=2) (m:=m₂) hW3 hk (by omega) hoth
  ·obtain ⟨g',w',es,hgo,⟨rfl,rfl⟩,hg'⟩:=hstep w (RW.refl w)
   exact idle hgo (.d3 hg') rfl
 | d4 h =>
  rcases Goes.cases h with hstop | ⟨m',rfl,hstep⟩
  ·obtain ⟨_,hmw,hx⟩:=hstop w (RW.refl w)
   obtain ⟨hW3,hoth,rfl,rfl⟩:=hmode.isLast hk (by omega)
   simp only [hst] at hwg
   obtain ⟨g',hgo,q,hq⟩:=hx (by simpa using hwg)
   have hrun' : g'.status = .running:=by
    cases q with
    | zero=>exact absurd hq.2 (by decide)
    | succ q =>
     rcases hq with x | x
     ·exact absurd x.2 (by decide)
     ·exact x.1
   refine bookG hgo (aside_setCell w (smA c.Wg) _) (hwg.setSm 1) Go.ConcN.bk_sem ?_ (.quit hq) (by omega) (by simp [deafBehind,semEvents]) ?_ (.inl ⟨by omega,by simp [cnt]⟩)
   ·intro jx e he
    match jx,he with
    | 0,he=>simp [semEvents] at he; subst he; exact .inl rfl
    | 1,_=>exact .inr (by simp [deafBehind,semEvents])
    | 2,_=>exact .inr (by simp [deafBehind,semEvents])
    | 3,he=>simp [semEvents] at he; subst he; exact .inl rfl
    | jx + 4,he=>simp [semEvents] at he
   ·intro tag' ht hw
    have hnb:=hw hmw hrun'
    have e3 : tag' = .w3:=by
     rcases ht with rfl | ⟨_,rfl⟩
     ·cases tag' <;> first | rfl | exact hW3.elim | exact absurd rfl hnb
     ·rfl
    subst e3
    simp only [if_true]
    refine .sema fun a ha=>?_
    by_cases e : a = c.o + i
    ·subst e; rw [upd_same]
    ·rw [upd_ne D _ e]; exact hoth a ha e
  ·obtain ⟨g',w',es,hgo,⟨rfl,rfl⟩,hg'⟩:=hstep w (RW.refl w)
   exact idle hgo (.d4 hg') rfl
 | quit h =>
  cases m with
  | zero=>rw [h.1] at hrun; cases hrun
  | succ q =>
   rcases h with ⟨hf,_⟩ | ⟨_,g',es,hmute,hstep,hq⟩
   ·rw [hf] at hrun; cases hrun
   ·refine book (hstep w) (.refl c.Wg w) hwg (fun e he=>Go.ConcR.bk_of_mute (hmute e he)) (fun jx e he=>.inl (touch_mute (hmute e (Array.mem_of_getElem? he)))) (.quit hq) (by omega) rfl ?_ (.inr ⟨rfl,rfl⟩)
    have:=hmode.same (i:=c.o + i) q (deafBehind dd es)
    rwa [hst] at this
theorem Yz (G : Geo c) (hn : c.o + c.n < 2147483647) (ha : gs[0]? = some a) (hcs : CX c Low tag j f0 d0 a w) (hcom : Com c w0 t0 Low j gs w t D Lw Bo RB d0) (hwg : WgAt c.ty c.Wg w st sm) (hmode : Go.ConcN.Mode (c.o + j) D tag st sm) {k : Nat} {g : Goroutine} (hg : gs[k + 1]? = some g) (hrun : g.status = .running) :
  Gm c w0 t0 t (phi (c.o + c.n) (Vc (c.o + j) D) tag + Ssum (c.o + j) D,f0 + 2 * Fsum (c.o + j) D) (runT c.P (crowd gs w sl) (k + 1)):=by
 have hlt : k + 1 < gs.size:=(Array.getElem?_eq_some_iff.1 hg).1
 rw [hcom.size] at hlt
 by_cases hko : k < c.o
 ·exact Ahx G ha hcs hcom hwg hmode hko hg hrun
 ·obtain ⟨i,rfl⟩ : ∃ i,k = c.o + i:=⟨k - c.o,by omega⟩
  obtain ⟨g₁,hg₁,hs⟩:=hcom.wk i (by omega)
  rw [hg] at hg₁
  cases hg₁
  generalize hst : (D (c.o + i)).stage = s at hs
  generalize hfu : (D (c.o + i)).fuel = m at hs
  generalize hde : (D (c.o + i)).deaf = dd at hs
  generalize hbo : Bo i = bo at hs
  cases hs with
  | a h=>exact Qo G ha hcs hcom hwg hmode (by omega) hg hst (by rw [hbo,hfu,hde]; exact .a h)
  | b h=>exact Qo G ha hcs hcom hwg hmode (by omega) hg hst (by rw [hbo,hfu,hde]; exact .b h)
  | c h6 h hout=>exact Aea G hn ha hcs hcom hwg hmode (by omega) hg hrun hbo hst hfu hde h6 h hout
end
end Go.Phase
namespace Go.Phase
open Go.Conc Go.Lift
open Go.ConcN (WgLive PayAt Has AtR0 AtK1 WSit RW CTag CT RelBy WD upd upd_same upd_ne Vc Ssum Fsum phi pend cnt sumTo sumTo_upd_out OpenSt AllQuit isW3 isOpen Vc_upd Vc_le le_sumTo ShN)
open Go.ConcR (KK wgBlock WgAt stA smA rd wr mk Payload Bk g_of_ofEvents)
variable [Payload]
structure Done (c : Cfg) (w0 : World) (a : Goroutine) (w : World) : Prop where
 thn : c.Then a w
 out : ∀ i,i < c.n -> ∃ b,c.base <= b /\ IsB c w b /\ c.Out i b w
 pay : PayAt c.C c.n w
 wg : WgAt c.ty c.Wg w 0 0
 frame : ∀ b,b < c.base -> w.heap[b]? = w0.heap[b]?
 tidy : Tidy c w
 os : w.os = w0.os /\ w.output = w0.output
 low : c.base <= w.heap.size /\ c.Wg < w.heap.size /\ c.C < w.heap.size
def Shun' (c : Cfg) (l : Loc) : Prop:=c.Shun l \/ ShN c.Wg l
def Acr (c : Cfg) (w0 : World) (m : Machine) (t : Trace) : Prop:=∃ a w,Done c w0 a w /\ Dv c.P (Shun' c) w.heap.size (c.o + c.n + 1) a w m t
def Ends (c : Cfg) (w0 : World) (t : Trace) (s : Stepped × Array MemOp) : Prop:=∃ m₁ ops,s = (.next m₁,ops) /\ Acr c w0 m₁ (t ++ ops)
section
variable {c : Cfg} {w0 w w' : World} {t0 t : Trace} {Low j : Nat} {gs : Array Goroutine} {sl : Option (Nat × Nat)} {D : Nat -> WD} {Lw : Nat -> Nat} {Bo : Nat -> Option Nat} {RB : Nat -> Nat -> Prop} {tag tag' : CTag} {f0 f' d0 : Nat} {a a' : Goroutine} {st sm st' sm' : Int} {es : Array Event}
theorem Xy (hcom : Com c w0 t0 Low j gs w t D Lw Bo RB d0) (ha : gs[0]? = some a) (hgo : stepG c.P true a w = .go a' w' es)
  (hcom' : Com c w0 t0 Low j ((gs.map (woken c.P a a' w')).setIfInBounds 0 a') w' (t ++ MemOp.ofEvents 0 a.frame.fn a.frame.place es) D Lw Bo RB (deafBehind d0 es)) (hcs' : CX c Low tag' j f' (deafBehind d0 es) a' w')
  (hwg' : WgAt c.ty c.Wg w' st' sm') (hmode' : Go.ConcN.Mode (c.o + j) D tag' st' sm') (hlt : phi (c.o + c.n) (Vc (c.o + j) D) tag' < phi (c.o + c.n) (Vc (c.o + j) D) tag \/ (phi (c.o + c.n) (Vc (c.o + j) D) tag' = phi (c.o + c.n) (Vc (c.o + j) D) tag /\ f' < f0)) :
  Gm c w0 t0 t (phi (c.o + c.n) (Vc (c.o + j) D) tag + Ssum (c.o + j) D,f0 + 2 * Fsum (c.o + j) D) (runT c.P (crowd gs w sl) 0):=by
 have hrun:=runT_crowd_go (P:=c.P) (sl:=sl) (i:=0) ha hgo
 refine ⟨_,_,(phi (c.o + c.n) (Vc (c.o + j) D) tag' + Ssum (c.o + j) D,f' + 2 * Fsum (c.o + j) D),hrun,?_,
  _,w',sl,Low,j,D,Lw,Bo,RB,tag',f',deafBehind d0 es,a',st',sm',rfl,G9 _ _ _ (by rw [hcom.size]; omega),hcs',hcom',hwg',hmode',rfl⟩
 rcases hlt with h | ⟨h1,h2⟩
 ·exact Prod.Lex.left _ _ (by omega)
 ·rw [h1]; exact Prod.Lex.right _ (by omega)
theorem idle0 (G : Geo c) (hcom : Com c w0 t0 Low j gs w t D Lw Bo RB d0) (ha : gs[0]? = some a) (hwg : WgAt c.ty c.Wg w st sm) (hmode : Go.ConcN.Mode (c.o + j) D tag st sm)
  (hgo : stepG c.P true a w = .go a' w' es) (hD : D0 c Low w w' es) (hcs' : CX c Low tag j f' d0 a' w') (hf : f' < f0) :
  Gm c w0 t0 t (phi (c.o + c.n) (Vc (c.o + j) D) tag + Ssum (c.o + j) D,f0 + 2 * Fsum (c.o + j) D) (runT c.P (crowd gs w sl) 0):=by
 have hls:=hcom.lowS
 have hk : ∀ b,b < Low -> w'.heap[b]? = w.heap[b]?:=fun b h=>hD.keep b (by omega) (.inl h)
 have hB : ∀ b,IsB c w b -> w'.heap[b]? = w.heap[b]?:=fun b h=>hD.keep b h.lt (.inr h)
 have hwg' : WgAt c.ty c.Wg w' st sm:=hwg.of_block (hk _ hcom.lowW)
 have hp : PayAt c.C c.n w':=let ⟨cs,h1,h2⟩:=hcom.pay; ⟨cs,(hk _ hcom.lowC).trans h1,h2⟩
 have hdf : deafBehind d0 es = d0:=J4 (fun e he=>(Us (hD.ev e he)).2) d0
 refine Xy hcom ha hgo (hcom.step0 G ⟨hD.size,fun b h=>h.of_block (hB b h),fun b h=>hk b (by have:=hcom.lowB; omega),hD.tidy,hD.os⟩ (fun b h _ _ h4 x=>h4 (x.of_block (hk b h).symm))
  (fun i hi=>⟨hD.size,fun b h _ _ _=>hk b (by have:=hcom.low i hi; omega),fun b h=>hB b (hcom.bs i b h).2.2,fun _=>⟨_,_,hwg'⟩,fun _=>hp,Go.ConcN.cell_of_block (hk _ hcom.lowC) i⟩) (fun e he=>.inl (hD.ev e he)) hp ⟨_,_,hwg'⟩) (by rw [hdf]; exact hcs') hwg' hmode (.inr ⟨rfl,hf⟩)
theorem book0 (G : Geo c) (hcom : Com c w0 t0 Low j gs w t D Lw Bo RB d0) (ha : gs[0]? = some a)
  (hgo : stepG c.P true a w = .go a' w' es) (hA : Aside c.Wg w w') (hwg' : WgAt c.ty c.Wg w' st' sm') (hbk : ∀ e ∈ es,Bk c.Wg e) (hcs' : CX c Low tag' j f' (deafBehind d0 es) a' w') (hmode' : Go.ConcN.Mode (c.o + j) D tag' st' sm')
  (hlt : phi (c.o + c.n) (Vc (c.o + j) D) tag' < phi (c.o + c.n) (Vc (c.o + j) D) tag \/ (phi (c.o + c.n) (Vc (c.o + j) D) tag' = phi (c.o + c.n) (Vc (c.o + j) D) tag /\ f' < f0)) :
  Gm c w0 t0 t (phi (c.o + c.n) (Vc (c.o + j) D) tag + Ssum (c.o + j) D,f0 + 2 * Fsum (c.o + j) D) (runT c.P (crowd gs w sl) 0):=by
 obtain ⟨t1,t2,t3,t4,t5⟩:=Acv G hcom hA ⟨_,_,hwg'⟩
 exact Xy hcom ha hgo (hcom.step0 G t2 (fun b h=>t3 b (by have:=hcom.lowS; omega)) t4 (fun e he=>.inr (.inl (hbk e he))) t5 ⟨_,_,hwg'⟩) hcs' hwg' hmode' hlt
theorem go_step (G : Geo c) {r : Nat} (hr : r < c.n) (hcom : Com c w0 t0 Low (c.n - (r + 1)) gs w t D Lw Bo RB 0) (ha : gs[0]? = some a) (hwg : WgAt c.ty c.Wg w st sm) (hmode : Go.ConcN.Mode (c.o + (c.n - (r + 1))) D (.sp r 2) st sm)
  (hstop : AtGo c (c.n - (r + 1)) (Spawns c r) a w) :
  Gm c w0 t0 t (phi (c.o + c.n) (Vc (c.o + (c.n - (r + 1))) D) (.sp r 2) + Ssum (c.o + (c.n - (r + 1))) D,f0 + 2 * Fsum (c.o + (c.n - (r + 1))) D) (runT c.P (crowd gs w sl) 0):=by
 obtain ⟨_,a',child,hsp,_,hwk0,hnext⟩:=hstop
 obtain ⟨m₂,mB,hwk⟩:=hwk0 hcom.pay
 obtain ⟨ho,rfl,rfl,_⟩:=hmode.open_inv trivial
 have hrun':=runT_crowd_spawn (P:=c.P) (sl:=sl) (i:=0) ha hsp
 rw [hcom.size] at hrun'
 have hcom':=hcom.spawn G (a':=a') (x:={ g:=0,fn:=a.frame.fn,pos:=a.frame.place,act:=.go (c.o + (c.n - (r + 1)) + 1) }) (y:={ g:=c.o + (c.n - (r + 1)) + 1,fn:=child.frame.fn,pos:=a.frame.place,act:=.start }) ⟨rfl,rfl⟩ ⟨rfl,rfl⟩ hwk
 generalize hx : (⟨7,m₂ + mB + 1,0⟩ : WD) = x at hcom'
 generalize hk : c.o + (c.n - (r + 1)) = k at *
 have ek : c.o + (c.n - r) = k + 1:=by omega
 have ej : c.n - (r + 1) + 1 = c.n - r:=by omega
 rw [ej] at hcom'
 have eV : Vc (k + 1) (upd D k x) = Vc k D + 1:=by
  simp only [Vc,sumTo,upd_same]
  rw [sumTo_upd_out D x cnt (Nat.le_refl _),<- hx]; rfl
 have eS : Ssum (k + 1) (upd D k x) = Ssum k D + 7:=by
  simp only [Ssum,sumTo,upd_same]
  rw [sumTo_upd_out D x WD.stage (Nat.le_refl _),<- hx]
 have ho' : OpenSt (k + 1) (upd D k x):=fun i hi=>by
  by_cases e : i = k
  ·subst e; rw [upd_same,<- hx]; exact .inl rfl
  ·rw [upd_ne D _ e]; exact ho i (by omega)
 have ha' : ((gs.setIfInBounds 0 a').push child)[0]? = some a':=by
  rw [Array.getElem?_push_lt (by simp [hcom.size]),<- Array.getElem?_eq_getElem]
  simp [hcom.size]
 have est : ∀ tag',pend tag' = 0 -> ((Vc k D + pend (.sp r 2) : Nat) : Int) * KK = ((Vc (k + 1) (upd D k x) + pend tag' : Nat) : Int) * KK:=fun tag' hp=>by rw [eV,hp]; simp [pend]
 cases r with
 | zero =>
  obtain ⟨m₃,hk'⟩:=hnext
  refine ⟨_,_,(phi (c.o + c.n) (Vc (k + 1) (upd D k x)) .kd + Ssum (k + 1) (upd D k x),m₃ + 2 * Fsum (k + 1) (upd D k x)),hrun',Prod.Lex.left _ _ (by simp only [phi]; omega),
   _,w,sl,w.heap.size,c.n - 0,upd D k x,_,_,_,.kd,m₃,0,a',_,_,rfl,ha',.kd hk',hcom',hwg,?_,by rw [ek]⟩
  rw [est .kd rfl,ek]
  exact .opn trivial ho' (by simp)
 | succ r' =>
  obtain ⟨m₃,hk'⟩:=hnext
  refine ⟨_,_,(phi (c.o + c.n) (Vc (k + 1) (upd D k x)) (.sp r' 5) + Ssum (k + 1) (upd D k x),m₃ + 2 * Fsum (k + 1) (upd D k x)),hrun',Prod.Lex.left _ _ (by simp only [phi]; omega),
   _,w,sl,w.heap.size,c.n - (r' + 1),upd D k x,_,_,_,.sp r' 5,m₃,0,a',_,_,rfl,ha',.skd (by omega) hk',hcom',hwg,?_,by rw [ek]⟩
  rw [est (.sp r' 5) rfl,ek]
  exact .opn trivial ho' (by simp)
theorem Acu (G : Geo c) (hn : c.o + c.n < 2147483647) (hcom : Com c w0 t0 Low c.n gs w t D Lw Bo RB 1) (ha : gs[0]? = some a) (hwg : WgAt c.ty c.Wg w st sm) (hmode : Go.ConcN.Mode (c.o + c.n) D .w1 st sm)
  (h : Goes c.P true (R0 c) (D0 c Low) (AtW1 c Low) f0 a w) :
  Gm c w0 t0 t (phi (c.o + c.n) (Vc (c.o + c.n) D) .w1 + Ssum (c.o + c.n) D,f0 + 2 * Fsum (c.o + c.n) D) (runT c.P (crowd gs w sl) 0):=by
 rcases Goes.cases h with hstop | ⟨m',rfl,hstep⟩
 ·obtain ⟨_,hall⟩:=hstop w (.refl w)
  obtain ⟨ho,rfl,rfl,_⟩:=hmode.open_inv trivial
  have hV:=Vc_le (c.o + c.n) D
  obtain ⟨a',hgo,h0,hne⟩:=hall (Vc (c.o + c.n) D) (by omega) (by simpa [pend] using hwg)
  by_cases hv : Vc (c.o + c.n) D = 0
  ·obtain ⟨m₂,hk⟩:=h0 hv
   refine book0 G hcom ha hgo (.refl c.Wg w) hwg Go.ConcN.bk_rd (tag':=.ke) (.ke hk) ?_ (.inl (by simp only [phi]; omega))
   have e : ((Vc (c.o + c.n) D + pend .w1 : Nat) : Int) * KK = 0:=by rw [hv]; simp [pend]
   rw [e]
   exact .fin trivial (Go.ConcN.allQuit_of ho hv)
  ·obtain ⟨m₂,hk⟩:=hne hv
   exact book0 G hcom ha hgo (.refl c.Wg w) hwg Go.ConcN.bk_rd (tag':=.w2 (Vc (c.o + c.n) D)) (.w2 hk) (hmode.reopen trivial trivial rfl (fun vs e=>by cases e; omega)) (.inl (by simp only [phi]; omega))
 ·obtain ⟨a',w',es,hgo,hD,hg'⟩:=hstep w (.refl w)
  exact idle0 G hcom ha hwg hmode hgo hD (.w1 hg') (by omega)
end
end Go.Phase
