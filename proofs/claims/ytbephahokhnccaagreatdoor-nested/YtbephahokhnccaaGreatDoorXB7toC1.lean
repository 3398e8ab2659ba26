import Derived.Test.YtbephahokhnccaaGreatDoorXB5toB6
import Derived.Conc.WgGenN3
set_option linter.unusedSectionVars false
set_option maxHeartbeats 1600000
namespace Go.Phase
open Go.Conc Go.Lift
open Go.ConcN (WgLive PayAt Has AtR0 AtK1 WSit RW CTag CT RelBy WD upd upd_same upd_ne Vc Ssum Fsum phi pend cnt sumTo OpenSt AllQuit isW3 isOpen Vc_le ShN)
open Go.ConcR (KK wgBlock WgAt stA smA rd wr mk Payload Bk g_of_ofEvents)
variable [Payload]
section
variable {c : Cfg} {w0 w : World} {t0 t : Trace} {Low j B0 : Nat} {gs : Array Goroutine} {sl : Option (Nat × Nat)} {D : Nat -> WD} {Lw : Nat -> Nat} {Bo : Nat -> Option Nat} {RB : Nat -> Nat -> Prop} {tag : CTag} {f0 d0 : Nat} {a : Goroutine} {st sm : Int}
def Joined (c : Cfg) (t : Trace) : Prop:=∃ q,t.act? q = some (.mark (.acquire (stA c.Wg))) /\ t.g? q = some 0 /\ t.heard q /\ ∀ i,i < c.n -> ∃ r,RelBy (stA c.Wg) t (c.o + i + 1) r /\ r < q
theorem finish (hP0 : PastX c.Shun B0 (c.o + 1) t0) (hcom : Com c w0 t0 Low c.n gs w t D Lw Bo RB 0) (hq : AllQuit (c.o + c.n) D) (hwg : WgAt c.ty c.Wg w 0 0) (ha : gs[0]? = some a) (hthen : c.Then a w) (hJ : Joined c t) : Acr c w0 (crowd gs w sl) t:=by
 obtain ⟨q,hqa,hqg,hqh,hrel⟩:=hJ
 obtain ⟨zq,hzq,hzg⟩:=Option.map_eq_some_iff.1 hqg
 obtain ⟨u,htu,hu⟩:=hcom.tr
 -- what a worker did ahead of its release is known
 have edge : ∀ i r,i < c.n -> RelBy (stA c.Wg) t (c.o + i + 1) r -> r < q -> HappensBefore t r q:=fun i r _ hr hrq=>.single (.inr ⟨.marked hrq (.inr hr.act) hqa (fun k _ _=>hcom.norel k),hr.heard,hqh⟩)
 have worker : ∀ k op,t[k]? = some op -> c.o < op.g -> t.counts k -> HappensBefore t k q:=by
  intro k op hk hg hc
  have hle:=hcom.ct.gs k op hk
  obtain ⟨i,hi⟩ : ∃ i,op.g = c.o + i + 1:=⟨op.g - c.o - 1,by omega⟩
  obtain ⟨r,hr,hrq⟩:=hrel i (by omega)
  have hgk : t.g? k = some (c.o + i + 1):=by simp [Trace.g?,hk,hi]
  have hle : k <= r:=Nat.le_of_not_lt fun hlt=>hr.after k hlt hgk hc
  have e:=edge i r (by omega) hr hrq
  rcases Nat.lt_or_ge k r with hlt | hge
  ·exact .trans (.single (.inl ⟨hlt,_,hgk,hr.g⟩)) e
  ·obtain rfl : k = r:=by omega
   exact e
 have old : ∀ k,k < t0.size -> t[k]? = t0[k]?:=fun k hk=>by rw [htu]; exact getElem?_append_old hk
 have split : ∀ k op,t[k]? = some op -> (k < t0.size /\ t0[k]? = some op) \/ Adz c w.heap.size op:=by
  intro k op hk
  rw [htu] at hk
  rcases getElem?_append_cases hk with ⟨h1,h2⟩ | ⟨_,h2⟩
  ·exact .inl ⟨h1,h2⟩
  ·exact .inr (hu op h2)
 have known : ∀ i x,touchAt t i = some x -> x.loc.isMemory = true -> Knows t 0 i \/ (Shun' c x.loc /\ x.kind = .atomic):=by
  intro i x hx hm
  obtain ⟨op,ho,hox⟩:=touch_of hx
  rcases split i op ho with ⟨hlt,ho'⟩ | hph
  ·rcases hP0.past.known i x (by rw [touchAt_of ho']; exact hox) hm with h | ⟨h1,h2⟩
   ·left; rw [htu]; exact h.app u
   ·exact .inr ⟨.inl h1,h2⟩
  ·rcases hph.1 with h0 | h0 | h0
   ·have:=knows_own ho
    rw [h0] at this
    exact .inl this
   ·by_cases hk : x.kind = .atomic
    ·exact .inr ⟨.inr ((hph.2.1 x hox).2 hk),hk⟩
    ·exact .inl ⟨q,zq,hzq,hzg,.inr (worker i op ho h0 ⟨x,hx,hm,.inl hk⟩)⟩
   ·rw [h0] at hox; cases hox
 have over : t.HandedOver:=by
  intro i g hg hne hc
  obtain ⟨op,ho,rfl⟩:=Option.map_eq_some_iff.1 hg
  rcases split i op ho with ⟨hlt,ho'⟩ | hph
  ·obtain ⟨k,hk,hb⟩:=hP0.past.over i op.g (by simp [Trace.g?,ho']) hne (by rw [htu] at hc; exact (counts_old hlt).1 hc)
   have hkl : k < t0.size:=by
    obtain ⟨z,hz,_⟩:=Option.map_eq_some_iff.1 hk
    exact lt_size_of_getElem? hz
   refine ⟨k,?_,?_⟩
   ·rw [htu,g?_old hkl]; exact hk
   ·rw [htu]; exact hb_app u hb
  ·rcases hph.1 with h0 | h0 | h0
   ·exact absurd h0 hne
   ·exact ⟨q,hqg,worker i op ho h0 hc⟩
   ·obtain ⟨x,hx,_⟩:=hc
    obtain ⟨op',ho',hox⟩:=touch_of hx
    rw [ho] at ho'
    cases ho'
    rw [h0] at hox; cases hox
 refine ⟨a,w,⟨hthen,fun i hi=>?_,hcom.pay,hwg,hcom.frame,hcom.tidy,hcom.os,Nat.le_trans hcom.lowB hcom.lowS,Nat.lt_of_lt_of_le hcom.lowW hcom.lowS,Nat.lt_of_lt_of_le hcom.lowC hcom.lowS⟩,gs,sl,fun i=>(D (i - 1)).fuel,rfl,hcom.size,ha,⟨fun i g hi hg=>?_,fun k hk=>?_⟩,⟨⟨hcom.ct.nr,known,over,hcom.deaf0,hcom.seen⟩,?_,?_,?_⟩⟩
 ·obtain ⟨g,_,hs⟩:=hcom.wk i hi
  have h1:=hq (c.o + i) (by omega)
  generalize (D (c.o + i)).stage = s at hs h1
  generalize (D (c.o + i)).fuel = m at hs
  generalize (D (c.o + i)).deaf = dd at hs
  generalize hbo : Bo i = bo at hs
  cases hs with
  | a _=>omega
  | b _=>omega
  | c _ _ hout=>exact ⟨_,(hcom.bs i _ hbo).2.1,(hcom.bs i _ hbo).2.2,hout⟩
 ·obtain ⟨k,rfl⟩ : ∃ k,i = k + 1:=⟨i - 1,by omega⟩
  have hlt : k + 1 < gs.size:=(Array.getElem?_eq_some_iff.1 hg).1
  rw [hcom.size] at hlt
  rw [hcom.deafW k (by omega)]
  simp only [Nat.add_sub_cancel]
  by_cases hko : k < c.o
  ·obtain ⟨g',hg',_,hqq⟩:=hcom.old k hko
   rw [hg] at hg'; cases hg'
   exact hqq
  ·obtain ⟨i,rfl⟩ : ∃ i,k = c.o + i:=⟨k - c.o,by omega⟩
   obtain ⟨g',hg',hs⟩:=hcom.wk i (by omega)
   rw [hg] at hg'; cases hg'
   have h1:=hq (c.o + i) (by omega)
   generalize (D (c.o + i)).stage = s at hs h1
   generalize (D (c.o + i)).fuel = m at hs ⊢
   generalize (D (c.o + i)).deaf = dd at hs ⊢
   generalize Bo i = bo at hs
   cases hs with
   | a _=>omega
   | b _=>omega
   | c _ h _=>exact h.quits h1
 ·rw [hcom.size] at hk
  exact Go.ConcN.Deaf_absent fun i op ho e=>by have:=hcom.ct.gs i op ho; omega
 ·intro i op x hi hx hs
  refine hcom.ct.quiet i op x hi hx ?_
  rcases hs with h | h
  ·exact .inr h
  ·exact .inl h
 ·intro op hop
  obtain ⟨i,hi⟩:=Array.mem_iff_getElem?.1 hop
  have:=hcom.ct.gs i op hi
  omega
 ·intro op hop x hx
  obtain ⟨i,hi⟩:=Array.mem_iff_getElem?.1 hop
  rcases split i op hi with ⟨_,h⟩ | h
  ·exact hP0.mem op (Array.mem_of_getElem? h) x hx
  ·exact (h.2.1 x hx).1
theorem Wh (G : Geo c) (hP0 : PastX c.Shun B0 (c.o + 1) t0) (hn : c.o + c.n < 2147483647) (hAn : ∀ L g w,c.Anch L g w -> ∃ m,Goes c.P true (R0 c) (D0 c L) (AtW1 c L) m g w)
  (ha : gs[0]? = some a) (hcs : CX c Low tag j f0 d0 a w) (hcom : Com c w0 t0 Low j gs w t D Lw Bo RB d0) (hwg : WgAt c.ty c.Wg w st sm) (hmode : Go.ConcN.Mode (c.o + j) D tag st sm) (hrun : a.status = .running) :
  Ends c w0 t (runT c.P (crowd gs w sl) 0) \/ Gm c w0 t0 t (phi (c.o + c.n) (Vc (c.o + j) D) tag + Ssum (c.o + j) D,f0 + 2 * Fsum (c.o + j) D) (runT c.P (crowd gs w sl) 0):=by
 have hVj:=Vc_le (c.o + j) D
 cases hcs with
 | skd hr h =>
  rcases Goes.cases h with hstop | ⟨m',rfl,hstep⟩
  ·obtain ⟨_,a',hgo,m₂,hk⟩:=hstop w (.refl w)
   exact .inr (book0 G hcom ha hgo (.refl c.Wg w) hwg Go.ConcN.bk_dis (.sa1 hr hk) (hmode.reopen trivial trivial rfl (by simp)) (.inl (by simp only [phi]; omega)))
  ·obtain ⟨a',w',es,hgo,hD,hg'⟩:=hstep w (.refl w)
   exact .inr (idle0 G hcom ha hwg hmode hgo hD (.skd hr hg') (by omega))
 | sa1 hr h =>
  rename_i r
  rcases Goes.cases h with hstop | ⟨m',rfl,hstep⟩
  ·obtain ⟨_,hall⟩:=hstop w (.refl w)
   obtain ⟨ho,rfl,rfl,_⟩:=hmode.open_inv trivial
   obtain ⟨a',hgo,m₂,hk⟩:=hall (Vc (c.o + (c.n - (r + 1))) D) (by omega) (by simpa [pend] using hwg)
   refine .inr (book0 G hcom ha hgo (aside_setCell w (stA c.Wg) _) (hwg.setSt _) Go.ConcN.bk_rw (.ske hr hk) ?_ (.inl (by simp only [phi]; omega)))
   have e : (((Vc (c.o + (c.n - (r + 1))) D : Nat) : Int) + 1) * KK = ((Vc (c.o + (c.n - (r + 1))) D + pend (.sp r 3) : Nat) : Int) * KK:=by simp [pend]
   rw [e]
   exact .opn trivial ho (by simp)
  ·obtain ⟨a',w',es,hgo,hD,hg'⟩:=hstep w (.refl w)
   exact .inr (idle0 G hcom ha hwg hmode hgo hD (.sa1 hr hg') (by omega))
 | ske hr h =>
  rcases Goes.cases h with hstop | ⟨m',rfl,hstep⟩
  ·obtain ⟨_,a',hgo,m₂,hk⟩:=hstop w (.refl w)
   exact .inr (book0 G hcom ha hgo (.refl c.Wg w) hwg Go.ConcN.bk_en (.sgo hr hk) (hmode.reopen trivial trivial rfl (by simp)) (.inl (by simp only [phi]; omega)))
  ·obtain ⟨a',w',es,hgo,hD,hg'⟩:=hstep w (.refl w)
   exact .inr (idle0 G hcom ha hwg hmode hgo hD (.ske hr hg') (by omega))
 | sgo hr h =>
  rcases Goes.cases h with hstop | ⟨m',rfl,hstep⟩
  ·exact .inr (go_step G hr hcom ha hwg hmode (hstop w (.refl w)))
  ·obtain ⟨a',w',es,hgo,hD,hg'⟩:=hstep w (.refl w)
   exact .inr (idle0 G hcom ha hwg hmode hgo hD (.sgo hr hg') (by omega))
 | kd h =>
  rcases Goes.cases h with hstop | ⟨m',rfl,hstep⟩
  ·obtain ⟨_,a',hgo,m₂,hk⟩:=hstop w (.refl w)
   exact .inr (book0 G hcom ha hgo (.refl c.Wg w) hwg Go.ConcN.bk_dis (.anch hk) (hmode.reopen trivial trivial rfl (by simp)) (.inl (by simp only [phi]; omega)))
  ·obtain ⟨a',w',es,hgo,hD,hg'⟩:=hstep w (.refl w)
   exact .inr (idle0 G hcom ha hwg hmode hgo hD (.kd hg') (by omega))
 | anch h =>
  rcases Goes.cases h with hstop | ⟨m',rfl,hstep⟩
  ·obtain ⟨m₂,hk⟩:=hAn _ a w (hstop w (.refl w))
   obtain ⟨m₁,ops,μ',h1,h2,h3⟩:=Acu (sl:=sl) G hn hcom ha hwg (hmode.reopen trivial trivial rfl (by simp)) hk
   exact .inr ⟨m₁,ops,μ',h1,Go.ConcN.lt2_trans h2 (Prod.Lex.left _ _ (by simp only [phi]; omega)),h3⟩
  ·obtain ⟨a',w',es,hgo,hD,hg'⟩:=hstep w (.refl w)
   exact .inr (idle0 G hcom ha hwg hmode hgo hD (.anch hg') (by omega))
 | w1 h=>exact .inr (Acu G hn hcom ha hwg hmode h)
 | w2 h =>
  rename_i vs
  rcases Goes.cases h with hstop | ⟨m',rfl,hstep⟩
  ·obtain ⟨_,hall⟩:=hstop w (.refl w)
   obtain ⟨ho,rfl,rfl,hw2⟩:=hmode.open_inv trivial
   obtain ⟨hle,h1⟩:=hw2 vs rfl
   obtain ⟨hhit,hmiss⟩:=hall (Vc (c.o + c.n) D) (by omega) (by simpa [pend] using hwg)
   by_cases e : Vc (c.o + c.n) D = vs
   ·obtain ⟨a',hgo,m₂,hk⟩:=hhit e
    exact .inr (book0 G hcom ha hgo (aside_setCell w (stA c.Wg) _) (hwg.setSt _) Go.ConcN.bk_rw (.w3 hk) (.reg trivial ho (by omega)) (.inl (by simp only [phi]; omega)))
   ·obtain ⟨a',hgo,m₂,hk⟩:=hmiss e
    exact .inr (book0 G hcom ha hgo (.refl c.Wg w) hwg Go.ConcN.bk_rd (.anch hk) (hmode.reopen trivial trivial rfl (by simp)) (.inl (by simp only [phi]; omega)))
  ·obtain ⟨a',w',es,hgo,hD,hg'⟩:=hstep w (.refl w)
   exact .inr (idle0 G hcom ha hwg hmode hgo hD (.w2 hg') (by omega))
 | w3 h =>
  rcases Goes.cases h with hstop | ⟨m',rfl,hstep⟩
  ·obtain ⟨_,hoff,hblk,htake⟩:=hstop w (.refl w)
   cases hmode with
   | opn h1 _ _=>exact h1.elim
   | reg h1 h2 h3=>exact .inr (book0 G hcom ha (hblk ⟨_,hwg⟩) (.refl c.Wg w) hwg (by simp) (.blk hstop) (.reg trivial h2 h3) (.inr ⟨rfl,by omega⟩))
   | last L h1 h2 h3 h4=>exact .inr (book0 G hcom ha (hblk ⟨_,hwg⟩) (.refl c.Wg w) hwg (by simp) (.blk hstop) (.last L trivial h2 h3 h4) (.inr ⟨rfl,by omega⟩))
   | sema h2 =>
    obtain ⟨a',hgo,m₂,hk⟩:=htake hwg
    exact .inr (book0 G hcom ha hgo (aside_setCell w (smA c.Wg) _) (hwg.setSm 0) Go.ConcN.bk_sem (.w4 hk) (.fin trivial h2) (.inl (by simp only [phi]; omega)))
   | fin h1 _=>exact h1.elim
  ·obtain ⟨a',w',es,hgo,hD,hg'⟩:=hstep w (.refl w)
   exact .inr (idle0 G hcom ha hwg hmode hgo hD (.w3 hg') (by omega))
 | blk h=>simp at hrun
 | w4 h =>
  rcases Goes.cases h with hstop | ⟨m',rfl,hstep⟩
  ·obtain ⟨_,hx⟩:=hstop w (.refl w)
   obtain ⟨hq,rfl,rfl⟩:=hmode.fin_inv trivial
   obtain ⟨a',hgo,m₂,hk⟩:=hx hwg
   exact .inr (book0 G hcom ha hgo (.refl c.Wg w) hwg Go.ConcN.bk_rd (.ke hk) (.fin trivial hq) (.inl (by simp only [phi]; omega)))
  ·obtain ⟨a',w',es,hgo,hD,hg'⟩:=hstep w (.refl w)
   exact .inr (idle0 G hcom ha hwg hmode hgo hD (.w4 hg') (by omega))
 | ke h =>
  rcases Goes.cases h with hstop | ⟨m',rfl,hstep⟩
  ·obtain ⟨_,a',hgo,m₂,hk⟩:=hstop w (.refl w)
   obtain ⟨hq,rfl,rfl⟩:=hmode.fin_inv trivial
   exact .inr (book0 G hcom ha hgo (.refl c.Wg w) hwg Go.ConcN.bk_en (.acq hk) (.fin trivial hq) (.inl (by simp only [phi]; omega)))
  ·obtain ⟨a',w',es,hgo,hD,hg'⟩:=hstep w (.refl w)
   exact .inr (idle0 G hcom ha hwg hmode hgo hD (.ke hg') (by omega))
 | acq h =>
  rcases Goes.cases h with hstop | ⟨m',rfl,hstep⟩
  ·obtain ⟨_,a',hgo,hthen⟩:=hstop w (.refl w)
   obtain ⟨hq,rfl,rfl⟩:=hmode.fin_inv trivial
   have hcom':=hcom.step0 G (a:=a) (a':=a') (fn:=a.frame.fn) (pos:=a.frame.place) (es:=#[mk (.acquire (stA c.Wg))]) (Xn w) (fun _ _ _ _ h=>h) (fun i _=>RX.refl w) (fun e he=>by simp at he; subst he; exact .inr (.inr rfl)) hcom.pay hcom.live
   refine .inl ⟨_,_,runT_crowd_go (P:=c.P) (sl:=sl) (i:=0) ha hgo,finish hP0 hcom' hq hwg (G9 _ _ _ (by rw [hcom.size]; omega)) hthen ?_⟩
   have e1 : MemOp.ofEvents 0 a.frame.fn a.frame.place #[mk (.acquire (stA c.Wg))] = #[{ g:=0,fn:=a.frame.fn,pos:=a.frame.place,act:=.mark (.acquire (stA c.Wg)) }]:=by rw [ofEvents_eq]; simp [Go.ConcR.ofEvent_mk]
   have hy : (t ++ #[({ g:=0,fn:=a.frame.fn,pos:=a.frame.place,act:=.mark (.acquire (stA c.Wg)) } : MemOp)])[t.size]? = some { g:=0,fn:=a.frame.fn,pos:=a.frame.place,act:=.mark (.acquire (stA c.Wg)) }:=by simp
   refine ⟨t.size,by rw [e1,act?_of hy],by rw [e1]; simp [Trace.g?],by rw [e1]; exact ⟨0,by simp [Trace.g?],by rw [deaf_old (Nat.le_refl _)]; exact hcom.deaf0⟩,fun i hi=>?_⟩
   obtain ⟨r,hr⟩:=hcom.rel i hi (by rw [hq _ (by omega)]; omega)
   exact ⟨r,hr.appOther g_of_ofEvents (by omega),lt_of_act? hr.act⟩
  ·obtain ⟨a',w',es,hgo,hD,hg'⟩:=hstep w (.refl w)
   exact .inr (idle0 G hcom ha hwg hmode hgo hD (.acq hg') (by omega))
theorem Akt (G : Geo c) (ha : gs[0]? = some a) (hcs : CX c Low tag j f0 d0 a w) (hcom : Com c w0 t0 Low j gs w t D Lw Bo RB d0) (hmode : Go.ConcN.Mode (c.o + j) D tag st sm) : ∃ (i : Nat) (g : Goroutine),gs[i]? = some g /\ g.status = .running:=by
 have runs : ∀ k,k < c.o + j -> 2 <= (D k).stage -> ∃ (i : Nat) (g : Goroutine),gs[i]? = some g /\ g.status = .running:=by
  intro k hk h2
  by_cases hko : k < c.o
  ·obtain ⟨_,_,h1,_⟩:=hcom.old k hko; omega
  ·obtain ⟨i,rfl⟩ : ∃ i,k = c.o + i:=⟨k - c.o,by omega⟩
   obtain ⟨g,hg,hs⟩:=hcom.wk i (by omega)
   refine ⟨_,g,hg,?_⟩
   generalize (D (c.o + i)).stage = s at hs h2
   generalize (D (c.o + i)).fuel = m at hs
   generalize (D (c.o + i)).deaf = dd at hs
   generalize Bo i = bo at hs
   cases hs with
   | a h=>exact Goes.running (fun _ _ x=>x.1) w (RX.refl w) h
   | b h=>exact Goes.running (fun _ _ x=>x.1.elim fun _ y=>y.1) w (RX.refl w) h
   | c _ h _=>exact h.running_of (by omega)
 rcases hcs.status G.anch with ⟨hs,_⟩ | ⟨_,rfl⟩
 ·exact ⟨0,a,ha,hs⟩
 ·cases hmode with
  | opn h1 _ _=>exact h1.elim
  | reg _ _ h3 =>
   obtain ⟨i,hi,h5⟩:=Go.ConcN.exists_counted h3
   exact runs i hi (by omega)
  | last L _ h2 h3 _=>exact runs L h2 (by omega)
  | fin h1 _=>exact h1.elim
theorem Agg (G : Geo c) (ha : gs[0]? = some a) (hcs : CX c Low tag j f0 d0 a w) (hcom : Com c w0 t0 Low j gs w t D Lw Bo RB d0) : ∀ g ∈ gs,awake g:=by
 intro g hg
 obtain ⟨i,hi⟩:=Array.mem_iff_getElem?.1 hg
 cases i with
 | zero =>
  rw [ha] at hi; cases hi
  rcases hcs.status G.anch with ⟨hs,_⟩ | ⟨hs,_⟩
  ·exact awake_of (.inl hs)
  ·exact awake_of (.inr (.inl hs))
 | succ k =>
  have hlt:=(Array.getElem?_eq_some_iff.1 hi).1
  rw [hcom.size] at hlt
  have hs : g.status = .running \/ g.status = .finished:=by
   by_cases hko : k < c.o
   ·obtain ⟨g',hg',_,hq⟩:=hcom.old k hko
    rw [hi] at hg'; cases hg'
    exact hq.status
   ·obtain ⟨i,rfl⟩ : ∃ i,k = c.o + i:=⟨k - c.o,by omega⟩
    obtain ⟨g',hg',hs⟩:=hcom.wk i (by omega)
    rw [hi] at hg'; cases hg'
    exact hs.status
  rcases hs with h | h
  ·exact awake_of (.inl h)
  ·exact awake_of (.inr (.inr h))
theorem Aji (G : Geo c) (hP0 : PastX c.Shun B0 (c.o + 1) t0) (hn : c.o + c.n < 2147483647) (hAn : ∀ L g w,c.Anch L g w -> ∃ m,Goes c.P true (R0 c) (D0 c L) (AtW1 c L) m g w) (μ : Nat × Nat) :
  ∀ (m : Machine) (t : Trace),Inv c w0 t0 μ m t -> Runs c.P m t (Acr c w0):=by
 have wf : WellFounded Lt2:=(Prod.lex Nat.lt_wfRel Nat.lt_wfRel).wf
 induction wf.apply μ with
 | intro μ _ ih =>
  rintro m t ⟨gs,w,sl,Low,j,D,Lw,Bo,RB,tag,f0,d0,a,st,sm,rfl,ha,hcs,hcom,hwg,hmode,rfl⟩
  obtain ⟨i,g,d,sl',hg,hrun,hstep⟩:=crowd_pick (P:=c.P) (w:=w) (sl:=sl) (Agg G ha hcs hcom) (Akt G ha hcs hcom hmode)
  have hcs':=hcs.rely (R0.at w d)
  have hcom':=hcom.at G d
  have hwg' : WgAt c.ty c.Wg (w.at d) st sm:=hwg
  have key : Ends c w0 t (stepT c.P (crowd gs w sl)) \/ Gm c w0 t0 t (phi (c.o + c.n) (Vc (c.o + j) D) tag + Ssum (c.o + j) D,f0 + 2 * Fsum (c.o + j) D) (stepT c.P (crowd gs w sl)):=by
   rw [hstep]
   cases i with
   | zero =>
    rw [ha] at hg; cases hg
    exact Wh (sl:=sl') G hP0 hn hAn ha hcs' hcom' hwg' hmode hrun
   | succ k=>exact .inr (Yz (sl:=sl') G hn ha hcs' hcom' hwg' hmode hg hrun)
  rcases key with ⟨m₁,ops,h1,h2⟩ | ⟨m₁,ops,μ',h1,h2,h3⟩
  ·exact .step h1 (.here h2)
  ·exact .step h1 (ih μ' h2 m₁ _ h3)
end
end Go.Phase
namespace Go.Phase
open Go.Conc Go.Lift
open Go.ConcN (WgLive PayAt CTag CT RelBy WD Vc Ssum Fsum phi pend cnt sumTo OpenSt ShN)
open Go.ConcR (KK wgBlock WgAt stA smA Payload)
variable [Payload]
theorem Akh {D : Nat -> WD} (h : ∀ i,(D i).stage = 1) : ∀ J,Vc J D = 0:=by
 intro J
 induction J with
 | zero=>rfl
 | succ J ih =>
  have : cnt (D J) = 0:=by simp [cnt,h J]
  simp only [Vc,sumTo] at ih ⊢
  omega
theorem Qu {c : Cfg} (G : Geo c) (hn : c.o + c.n < 2147483647) (hAn : ∀ L g w,c.Anch L g w -> ∃ m,Goes c.P true (R0 c) (D0 c L) (AtW1 c L) m g w) {a : Goroutine} {w : World} {m : Machine} {t : Trace} {B0 : Nat}
  (hB : B0 <= c.Wg) (hbase : c.base <= w.heap.size) (hC : c.C < w.heap.size) (hwg : WgAt c.ty c.Wg w 0 0) (hpay : PayAt c.C c.n w) (htd : Tidy c w) (hsp : Spawns c c.n a w) (hst : Dv c.P c.Shun B0 (c.o + 1) a w m t) : Runs c.P m t (Acr c w):=by
 obtain ⟨gs,sl,q,rfl,hsz,h0,hL,hP⟩:=hst
 have hW : c.Wg < w.heap.size:=(Array.getElem?_eq_some_iff.1 hwg).1
 have hcom : Com c w t w.heap.size 0 gs w t (fun i=>⟨1,q (i + 1),Deaf t (i + 1)⟩) (fun _=>0) (fun _=>none) (fun _ _=>False) 0:=by
  refine ⟨by rw [hsz],fun i hi=>?_,fun i hi=>by omega,fun i hi=>by omega,Nat.le_refl _,hW,hC,hbase,(fun i b h=>by cases h),(fun i i' b h=>by cases h),fun i b h=>h.elim,fun i b h=>by omega,⟨_,_,hwg⟩,hpay,⟨?_,?_,?_,?_,?_,hP.past.clean,?_⟩,?_,hP.past.hears,fun i _=>rfl,fun i hi=>by omega,fun _ _=>rfl,⟨#[],by simp,fun op hop=>by simp at hop⟩,fun op hop=>MemAct.low_mono (by omega) (hP.past.seen op hop),htd,rfl,rfl⟩
  ·have hlt : i + 1 < gs.size:=by omega
   exact ⟨gs[i + 1],Array.getElem?_eq_getElem hlt,rfl,hL.old (i + 1) _ (by omega) (Array.getElem?_eq_getElem hlt)⟩
  ·intro i op x hi hx hs
   rcases hs with ⟨a',e,hb⟩ | hs
   ·have:=Tx (hP.past.seen op (Array.mem_of_getElem? hi)) hx e
    omega
   ·exact hP.quiet i op x hi hx hs
  ·rintro k k1 kj l ⟨i,a',rfl,_⟩
   omega
  ·rintro k k1 kj l ⟨i,a',rfl,_⟩
   omega
  ·intro l hs _ i x hx e
   obtain ⟨op,ho,hox⟩:=touch_of hx
   rcases hP.past.known i x hx (hP.mem op (Array.mem_of_getElem? ho) x hox) with h | ⟨h,_⟩
   ·exact h
   ·exact absurd (.inr (e ▸ h)) hs
  ·intro l hs _ i x hx e _
   obtain ⟨op,ho,hox⟩:=touch_of hx
   rcases hP.past.known i x hx (hP.mem op (Array.mem_of_getElem? ho) x hox) with h | ⟨h,_⟩
   ·exact h
   ·exact absurd (.inr (e ▸ h)) hs
  ·intro i op hi
   have:=hP.gsz op (Array.mem_of_getElem? hi)
   omega
  ·intro i hi
   obtain ⟨op,ho,hoa⟩:=Option.map_eq_some_iff.1 hi
   have:=hP.past.seen op (Array.mem_of_getElem? ho)
   rw [hoa] at this
   have : c.Wg < B0:=this
   omega
 have hmode : ∀ tag,Go.ConcN.isOpen tag -> pend tag = 0 -> (∀ vs,tag ≠ .w2 vs) -> Go.ConcN.Mode (c.o + 0) (fun i=>(⟨1,q (i + 1),Deaf t (i + 1)⟩ : WD)) tag 0 0:=fun tag h1 h2 h3=>by
  have:=Go.ConcN.Mode.opn (j:=c.o + 0) (D:=fun i=>(⟨1,q (i + 1),Deaf t (i + 1)⟩ : WD)) h1 (fun i hi=>.inr (.inr (.inr rfl))) (fun vs e=>absurd e (h3 vs))
  rw [Akh (fun _=>rfl),h2] at this
  simpa using this
 have hI : ∃ μ,Inv c w t μ (crowd gs w sl) t:=by
  cases hnn : c.n with
  | zero =>
   rw [hnn] at hsp
   obtain ⟨k,hk⟩:=hsp
   have hcx : CX c w.heap.size .kd 0 k 0 a w:=by
    have:=CX.kd hk
    rwa [hnn] at this
   exact ⟨_,gs,w,sl,w.heap.size,0,_,_,_,_,.kd,k,0,a,0,0,rfl,h0,hcx,hcom,hwg,hmode .kd trivial rfl (by simp),rfl⟩
  | succ r =>
   rw [hnn] at hsp
   obtain ⟨k,hk⟩:=hsp
   have hcx : CX c w.heap.size (.sp r 5) 0 k 0 a w:=by
    have:=CX.skd (show r < c.n by omega) hk
    rwa [show c.n - (r + 1) = 0 by omega] at this
   exact ⟨_,gs,w,sl,w.heap.size,0,_,_,_,_,.sp r 5,k,0,a,0,0,rfl,h0,hcx,hcom,hwg,hmode (.sp r 5) trivial rfl (by simp),rfl⟩
 obtain ⟨μ,hI⟩:=hI
 exact Aji G hP hn hAn μ _ _ hI
#print axioms Qu
end Go.Phase
namespace Go.Walk
open Go.Conc
structure Env (R : World -> World -> Prop) (D : World -> World -> Array Event -> Prop) (F : World -> Prop) : Prop where
 cl : ∀ w w₁,F w -> R w w₁ -> F w₁
 nil : ∀ w,D w w #[]
def GoW (P : Program) (main : Bool) (R : World -> World -> Prop) (D : World -> World -> Array Event -> Prop) (Stop : Goroutine -> World -> Prop) (F : World -> Prop) (n : Nat) (g : Goroutine) : Prop:=∀ w,F w -> Goes P main R D Stop n g w
section
variable {P : Program} {main : Bool} {R : World -> World -> Prop} {D : World -> World -> Array Event -> Prop} {Stop : Goroutine -> World -> Prop} {F : World -> Prop} {n : Nat} (E : Env R D F)
 {b : Frame} {a : Act} {k : List Item} {cs : List Frame}
theorem C8 (E : Env R D F) {g g' : Goroutine} (hr : g.status = .running) (h : ∀ w,F w -> stepG P main g w = .go g' w #[]) (hk : GoW P main R D Stop F n g') : GoW P main R D Stop F (n + 1) g :=
 fun w hw=>Goes.step hr fun w₁ h₁=>by
  have hF:=E.cl _ _ hw h₁
  rw [h w₁ hF]
  exact ⟨E.nil _,hk _ hF⟩
theorem Amz (E : Env R D F) {g g' : Goroutine} {es : Array Event} (hr : g.status = .running) (h : ∀ w,F w -> stepG P main g w = .go g' w es) (hD : ∀ w,F w -> D w w es) (hk : GoW P main R D Stop F n g') : GoW P main R D Stop F (n + 1) g :=
 fun w hw=>Goes.step hr fun w₁ h₁=>by
  have hF:=E.cl _ _ hw h₁
  rw [h w₁ hF]
  exact ⟨hD w₁ hF,hk _ hF⟩
theorem Bp (E : Env R D F) {g : Goroutine} (h : ∀ w,F w -> Stop g w) : GoW P main R D Stop F n g:=fun _ hw=>Goes.stop fun w₁ h₁=>h w₁ (E.cl _ _ hw h₁)
theorem Bj (E : Env R D F) {x y : Code} (h : GoW P main R D Stop F n (G (b.at a (.code x :: .code y :: k)) cs)) : GoW P main R D Stop F (n + 1) (G (b.at a (.code (.seq x y) :: k)) cs):=C8 E rfl (fun _ _=>stepG_seq) h
theorem Co (E : Env R D F) (h : GoW P main R D Stop F n (G (b.at a k) cs)) : GoW P main R D Stop F (n + 1) (G (b.at a (.code .skip :: k)) cs):=C8 E rfl (fun _ _=>stepG_skip) h
theorem Bq (E : Env R D F) {id : Nat} (h : GoW P main R D Stop F n (G (b.at a k) cs)) : GoW P main R D Stop F (n + 1) (G (b.at a (.inBlock id :: k)) cs):=C8 E rfl (fun _ _=>stepG_inBlock) h
theorem Cc (E : Env R D F) {id : Nat} {c : Code} (h : GoW P main R D Stop F n (G (b.at a (.code c :: .inBlock id :: k)) cs)) : GoW P main R D Stop F (n + 1) (G (b.at a (.code (.block id c) :: k)) cs):=C8 E rfl (fun _ _=>stepG_block) h
theorem Vx (E : Env R D F) {c : Code} (h : GoW P main R D Stop F n (G (b.at a (.code c :: .inLoop c :: k)) cs)) : GoW P main R D Stop F (n + 1) (G (b.at a (.code (.loop c) :: k)) cs):=C8 E rfl (fun _ _=>stepG_loop) h
theorem Bv (E : Env R D F) {c : Code} (h : GoW P main R D Stop F n (G (b.at a (.code c :: .inLoop c :: k)) cs)) : GoW P main R D Stop F (n + 1) (G (b.at a (.inLoop c :: k)) cs):=C8 E rfl (fun _ _=>stepG_inLoop) h
theorem Adg (E : Env R D F) {id : Nat} {k' : List Item} (e : exitTo id k = some k') (h : GoW P main R D Stop F n (G (b.at a k') cs)) : GoW P main R D Stop F (n + 1) (G (b.at a (.code (.exit id) :: k)) cs):=C8 E rfl (fun _ _=>stepG_exit e) h
theorem Dn (E : Env R D F) {id : Nat} {ops : Array Oper} {l : List Nat} (e : List.range ops.size = l) (h : GoW P main R D Stop F n (G (b.at a (.inRegion ops l :: k)) cs)) : GoW P main R D Stop F (n + 1) (G (b.at a (.code (.region id ops false) :: k)) cs):=C8 E rfl (fun _ _=>by rw [stepG_region,e]) h
theorem Ar (E : Env R D F) {id : Nat} {o0 : Oper} (h : GoW P main R D Stop F n (G (b.at a (.inRegion #[o0] [0] :: k)) cs)) : GoW P main R D Stop F (n + 1) (G (b.at a (.code (.region id #[o0] false) :: k)) cs):=Dn E rfl h
theorem Ay (E : Env R D F) {id : Nat} {o0 o1 : Oper} (h : GoW P main R D Stop F n (G (b.at a (.inRegion #[o0,o1] [0,1] :: k)) cs)) : GoW P main R D Stop F (n + 1) (G (b.at a (.code (.region id #[o0,o1] false) :: k)) cs):=Dn E rfl h
theorem Ck (E : Env R D F) {id : Nat} {o0 o1 o2 : Oper} (h : GoW P main R D Stop F n (G (b.at a (.inRegion #[o0,o1,o2] [0,1,2] :: k)) cs)) : GoW P main R D Stop F (n + 1) (G (b.at a (.code (.region id #[o0,o1,o2] false) :: k)) cs):=Dn E rfl h
theorem Bf (E : Env R D F) {id : Nat} {o0 o1 o2 o3 : Oper} (h : GoW P main R D Stop F n (G (b.at a (.inRegion #[o0,o1,o2,o3] [0,1,2,3] :: k)) cs)) : GoW P main R D Stop F (n + 1) (G (b.at a (.code (.region id #[o0,o1,o2,o3] false) :: k)) cs):=Dn E rfl h
theorem Bi (E : Env R D F) {id : Nat} {o0 o1 o2 o3 o4 : Oper} (h : GoW P main R D Stop F n (G (b.at a (.inRegion #[o0,o1,o2,o3,o4] [0,1,2,3,4] :: k)) cs)) : GoW P main R D Stop F (n + 1) (G (b.at a (.code (.region id #[o0,o1,o2,o3,o4] false) :: k)) cs):=Dn E rfl h
theorem Bh (E : Env R D F) {id : Nat} {o0 o1 o2 o3 o4 o5 : Oper} (h : GoW P main R D Stop F n (G (b.at a (.inRegion #[o0,o1,o2,o3,o4,o5] [0,1,2,3,4,5] :: k)) cs)) : GoW P main R D Stop F (n + 1) (G (b.at a (.code (.region id #[o0,o1,o2,o3,o4,o5] false) :: k)) cs):=Dn E rfl h
theorem Az (E : Env R D F) {id : Nat} {o0 o1 o2 o3 o4 o5 o6 : Oper} (h : GoW P main R D Stop F n (G (b.at a (.inRegion #[o0,o1,o2,o3,o4,o5,o6] [0,1,2,3,4,5,6] :: k)) cs)) : GoW P main R D Stop F (n + 1) (G (b.at a (.code (.region id #[o0,o1,o2,o3,o4,o5,o6] false) :: k)) cs):=Dn E rfl h
theorem Dt (E : Env R D F) {id : Nat} {o0 o1 o2 o3 o4 o5 o6 o7 : Oper} (h : GoW P main R D Stop F n (G (b.at a (.inRegion #[o0,o1,o2,o3,o4,o5,o6,o7] [0,1,2,3,4,5,6,7] :: k)) cs)) : GoW P main R D Stop F (n + 1) (G (b.at a (.code (.region id #[o0,o1,o2,o3,o4,o5,o6,o7] false) :: k)) cs):=Dn E rfl h
theorem E9 (E : Env R D F) {id : Nat} {o0 o1 o2 o3 o4 o5 o6 o7 o8 o9 : Oper} (h : GoW P main R D Stop F n (G (b.at a (.inRegion #[o0,o1,o2,o3,o4,o5,o6,o7,o8,o9] [0,1,2,3,4,5,6,7,8,9] :: k)) cs)) : GoW P main R D Stop F (n + 1) (G (b.at a (.code (.region id #[o0,o1,o2,o3,o4,o5,o6,o7,o8,o9] false) :: k)) cs):=Dn E rfl h
theorem Cv (E : Env R D F) {id : Nat} {o0 o1 o2 o3 o4 o5 o6 o7 o8 o9 o10 : Oper} (h : GoW P main R D Stop F n (G (b.at a (.inRegion #[o0,o1,o2,o3,o4,o5,o6,o7,o8,o9,o10] [0,1,2,3,4,5,6,7,8,9,10] :: k)) cs)) : GoW P main R D Stop F (n + 1) (G (b.at a (.code (.region id #[o0,o1,o2,o3,o4,o5,o6,o7,o8,o9,o10] false) :: k)) cs):=Dn E rfl h
theorem Gg (E : Env R D F) {id : Nat} {o0 o1 o2 o3 o4 o5 o6 o7 o8 o9 o10 o11 : Oper} (h : GoW P main R D Stop F n (G (b.at a (.inRegion #[o0,o1,o2,o3,o4,o5,o6,o7,o8,o9,o10,o11] [0,1,2,3,4,5,6,7,8,9,10,11] :: k)) cs)) : GoW P main R D Stop F (n + 1) (G (b.at a (.code (.region id #[o0,o1,o2,o3,o4,o5,o6,o7,o8,o9,o10,o11] false) :: k)) cs):=Dn E rfl h
theorem Xa (E : Env R D F) {id : Nat} {o0 o1 o2 o3 o4 o5 o6 o7 o8 o9 o10 o11 o12 o13 : Oper} (h : GoW P main R D Stop F n (G (b.at a (.inRegion #[o0,o1,o2,o3,o4,o5,o6,o7,o8,o9,o10,o11,o12,o13] [0,1,2,3,4,5,6,7,8,9,10,11,12,13] :: k)) cs)) : GoW P main R D Stop F (n + 1) (G (b.at a (.code (.region id #[o0,o1,o2,o3,o4,o5,o6,o7,o8,o9,o10,o11,o12,o13] false) :: k)) cs):=Dn E rfl h
theorem Ah (E : Env R D F) {ops : Array Oper} (h : GoW P main R D Stop F n (G (b.at a k) cs)) : GoW P main R D Stop F (n + 1) (G (b.at a (.inRegion ops [] :: k)) cs):=C8 E rfl (fun _ _=>stepG_region_end) h
theorem Adh (E : Env R D F) {x y : Code} {c : Operand} {t : Bool} (e : a.eval c = .bool t) (h : GoW P main R D Stop F n (G (b.at a (.code (if t then x else y) :: k)) cs)) : GoW P main R D Stop F (n + 1) (G (b.at a (.code (.cond c x y) :: k)) cs):=C8 E rfl (fun _ _=>stepG_cond e) h
theorem A8 (E : Env R D F) {x y : Code} {c : Operand} (e : a.eval c = .bool true) (h : GoW P main R D Stop F n (G (b.at a (.code x :: k)) cs)) : GoW P main R D Stop F (n + 1) (G (b.at a (.code (.cond c x y) :: k)) cs):=Adh E e h
theorem Bg (E : Env R D F) {x y : Code} {c : Operand} (e : a.eval c = .bool false) (h : GoW P main R D Stop F n (G (b.at a (.code y :: k)) cs)) : GoW P main R D Stop F (n + 1) (G (b.at a (.code (.cond c x y) :: k)) cs):=Adh E e h
theorem Di (E : Env R D F) (h : GoW P main R D Stop F n (G { b.at a (.code .ret :: k) with mode:=.returning } cs)) : GoW P main R D Stop F (n + 1) (G (b.at a (.code .ret :: k)) cs):=C8 E rfl (fun _ _=>stepG_ret') h
theorem Aah (E : Env R D F) (h : GoW P main R D Stop F n (G { b.at a [] with mode:=.returning } cs)) : GoW P main R D Stop F (n + 1) (G (b.at a []) cs):=C8 E rfl (fun _ _=>stepG_end) h
section
variable {ops : Array Oper} {i : Nat} {rest : List Nat} {o : Oper}
theorem Bn (E : Env R D F) (ho : ops[i]? = some o) (hw : Region.wanted o (yielded ops a.tmps) = false) (h : GoW P main R D Stop F n (G (b.at (a.put o.dst ud) (.inRegion ops rest :: k)) cs)) : GoW P main R D Stop F (n + 1) (G (b.at a (.inRegion ops (i :: rest) :: k)) cs):=C8 E rfl (fun _ _=>stepG_unwanted ho hw) h
theorem Aoy (E : Env R D F) {v : Value} (ho : ops[i]? = some o) (hw : Region.wanted o (yielded ops a.tmps) = true) (hk : b.kind ≠ .early) (hr : ∀ w,F w -> (execOp a.eval o).run P w = .ok (.value v) w) (he : ∀ w,F w -> (execOp a.eval o).events P w #[] = #[])
  (h : GoW P main R D Stop F n (G (b.at (a.put o.dst v) (.inRegion ops rest :: k)) cs)) : GoW P main R D Stop F (n + 1) (G (b.at a (.inRegion ops (i :: rest) :: k)) cs) :=
 C8 E rfl (fun w hF=>by rw [stepG_value ho hw hk (hr w hF)]; unfold listed; rw [he w hF,seen_none]) h
theorem A9 (E : Env R D F) (ho : ops[i]? = some o) (hw : Region.wanted o (yielded ops a.tmps) = true) (hk : b.kind ≠ .early)
  (h : ∀ w,F w -> ∀ K : Act -> World -> Prop,(∀ a',(execOp a.eval o).events P w #[] = #[] -> GoW P main R D Stop F n (G (b.at a' (.inRegion ops rest :: k)) cs) -> K a' w) -> uponK o a K ((execOp a.eval o).run P w)) : GoW P main R D Stop F (n + 1) (G (b.at a (.inRegion ops (i :: rest) :: k)) cs) :=
 fun _ hw'=>Goes.step rfl fun w₁ h₁=>goes_oper_k ho hw hk fun K' hK'=>h w₁ (E.cl _ _ hw' h₁) K' fun a' he hg=>hK' a' w₁ ⟨by unfold listed; rw [he,seen_none]; exact E.nil _,hg w₁ (E.cl _ _ hw' h₁)⟩
theorem Jl (E : Env R D F) {src dst t : TypeId} {x : Operand} {ad : Addr} (ho : ops[i]? = some o) (hw : Region.wanted o (yielded ops a.tmps) = true) (hk : b.kind ≠ .early) (hop : o.op = .convert src dst x) (hx : a.eval x = .pointer (some ad))
  (hs : P.underlying src = some (.pointer t)) (hd : P.underlying dst = some .unsafePointer) (hsz : (P.info? t).map (fun i=>decide (i.size = 0)) = some false) (hc : ∀ w,F w -> ∃ v,w.cell? ad = some v)
  (h : GoW P main R D Stop F n (G (b.at (a.put o.dst (.pointer (some ad))) (.inRegion ops rest :: k)) cs)) : GoW P main R D Stop F (n + 1) (G (b.at a (.inRegion ops (i :: rest) :: k)) cs) :=
 Aoy E ho hw hk (fun w hF=>by
  obtain ⟨v,hv⟩:=hc w hF
  unfold execOp
  simp only [hop,hx]
  rw [Sem.run_bind,run_convert_to_unsafe hs hd hsz hv]
  rfl) (fun w hF=>by
  obtain ⟨v,hv⟩:=hc w hF
  unfold execOp
  simp only [hop,hx]
  have e:=events_convert_to_unsafe (P:=P) (w:=w) hs hd hsz hv #[]
  simp [go_sem,e]) h
theorem Df (E : Env R D F) {f : FuncId} {fn : Func} {c : Code} {args : Array Operand} {ats : Array TypeId} (ho : ops[i]? = some o) (hw : Region.wanted o (yielded ops a.tmps) = true) (hk : b.kind ≠ .early) (hop : o.op = .call { callee:=.value (.func f),args,argTypes:=ats })
  (hf : P.funcs[f]? = some fn) (hname : (fn.name == "runtime.NumGoroutine") = false) (hb : fn.body = some c)
  (h : GoW P main R D Stop F n (G ((base f).at { tmps:=args.map a.eval ++ Array.replicate (fn.ntmps - (args.map a.eval).size) ud,defers:=[] } [.code c]) (b.at a (.inRegion ops (i :: rest) :: k) :: cs))) : GoW P main R D Stop F (n + 1) (G (b.at a (.inRegion ops (i :: rest) :: k)) cs) :=
 fun _ hw'=>Goes.step rfl fun _ h₁=>goes_call ho hw hk hop hf hname hb ⟨E.nil _,h _ (E.cl _ _ hw' h₁)⟩
theorem Ps (E : Env R D F) (v : Value) {f : FuncId} {fn : Func} {azs : Array Operand} {ats : Array TypeId} (ho : ops[i]? = some o) (hw : Region.wanted o (yielded ops a.tmps) = true) (hk : b.kind ≠ .early) (hop : o.op = .call { callee:=.value (.func f),args:=azs,argTypes:=ats })
  (hf : P.funcs[f]? = some fn) (hname : (fn.name == "runtime.NumGoroutine") = false) (hb : fn.body.isNone = true) (hn : Extern.findNext fn = none) (he : Extern.find fn = some (fun _=>pure v))
  (h : GoW P main R D Stop F n (G (b.at (a.put o.dst v) (.inRegion ops rest :: k)) cs)) : GoW P main R D Stop F (n + 1) (G (b.at a (.inRegion ops (i :: rest) :: k)) cs) :=
 C8 E rfl (fun _ _=>stepG_entry_pure v ho hw hk hop hf hname hb hn he) h
theorem Ajm (E : Env R D F) {f : FuncId} {azs : Array Operand} {ats : Array TypeId} (ho : ops[i]? = some o) (hw : Region.wanted o (yielded ops a.tmps) = true) (hk : b.kind ≠ .early) (hop : o.op = .defer { callee:=.value (.func f),args:=azs,argTypes:=ats })
  (h : GoW P main R D Stop F n (G (b.at (Act.put ⟨a.tmps,dcall f (azs.map a.eval) :: a.defers⟩ o.dst ud) (.inRegion ops rest :: k)) cs)) : GoW P main R D Stop F (n + 1) (G (b.at a (.inRegion ops (i :: rest) :: k)) cs) :=
 C8 E rfl (fun _ _=>stepG_defer ho hw hk hop) h
end
section
variable {ops : Array Oper} {i : Nat} {rest : List Nat} {b₀ : Frame} {a₀ : Act} {fn : Func} {todo : List Item}
theorem Dp (E : Env R D F) {t : Tmp} (hn : b.kind = .normal) (hd : a.defers = []) (hf : P.funcs[b.fn]? = some fn) (hr : fn.results = #[.tmp t])
  (h : GoW P main R D Stop F n (G (b₀.at (a₀.put ((ops[i]?).bind (·.dst)) (a.tmps.getD t ud)) (.inRegion ops rest :: k)) cs)) : GoW P main R D Stop F (n + 1) (G { b.at a todo with mode:=.returning } (b₀.at a₀ (.inRegion ops (i :: rest) :: k) :: cs)) :=
 fun _ hw=>Goes.step rfl fun _ h₁=>goes_leave1 hn hd hf hr ⟨E.nil _,h _ (E.cl _ _ hw h₁)⟩
theorem Gj (E : Env R D F) (hn : b.kind = .normal) (hd : a.defers = []) (hf : P.funcs[b.fn]? = some fn) (hr : fn.results = #[])
  (h : GoW P main R D Stop F n (G (b₀.at (a₀.put ((ops[i]?).bind (·.dst)) (.tuple #[])) (.inRegion ops rest :: k)) cs)) : GoW P main R D Stop F (n + 1) (G { b.at a todo with mode:=.returning } (b₀.at a₀ (.inRegion ops (i :: rest) :: k) :: cs)) :=
 fun _ hw=>Goes.step rfl fun _ h₁=>goes_leave0 hn hd hf hr ⟨E.nil _,h _ (E.cl _ _ hw h₁)⟩
end
end
end Go.Walk
namespace Go.Phase
open Go.Conc Go.Walk
open Go.ConcN (WgLive)
open Go.ConcR (WgAt stA smA Payload)
variable [Payload]
theorem envX (c : Cfg) (Low : Nat) {X : World -> Prop} (hX : ∀ w w₁,X w -> R0 c w w₁ -> X w₁) : Env (R0 c) (D0 c Low) (fun w=>X w /\ WgLive c.ty c.Wg w) :=
 ⟨fun w w₁ h r=>⟨hX w w₁ h.1 r,r.live h.2⟩,fun w=>⟨Nat.le_refl _,fun _ _ _=>rfl,(fun e he=>by simp at he),id,rfl,rfl⟩⟩
theorem Qe {c : Cfg} {w w' : World} (h : Aside c.Wg w w') (hl : WgLive c.ty c.Wg w') : R0 c w w':=⟨Nat.le_of_eq h.size.symm,fun b _ hb _ _=>h.block b hb,fun _=>hl⟩
theorem Amg (c : Cfg) (Low : Nat) (w : World) (a : Addr) (h : a.block = c.Wg) : D0 c Low w w #[⟨.mark (.read a),false,true⟩]:=⟨Nat.le_refl _,fun _ _ _=>rfl,(fun e he=>by rw [Array.mem_singleton] at he; subst he; exact .inr (.inl ⟨a,.inl rfl,h⟩)),id,rfl,rfl⟩
theorem Ajz (c : Cfg) (Low : Nat) (w : World) (a : Addr) (h : a.block = c.Wg) : D0 c Low w w #[⟨.mark (.write a),false,true⟩]:=⟨Nat.le_refl _,fun _ _ _=>rfl,(fun e he=>by rw [Array.mem_singleton] at he; subst he; exact .inr (.inl ⟨a,.inr rfl,h⟩)),id,rfl,rfl⟩
theorem Acm {ty : TypeId} {Wg : Nat} {w : World} (h : WgLive ty Wg w) : ∃ v,w.cell? ⟨Wg,0,none⟩ = some v:=let ⟨_,_,x⟩:=h; ⟨_,x.cellSt⟩
theorem Amw {ty : TypeId} {Wg : Nat} {w : World} (h : WgLive ty Wg w) : ∃ v,w.cell? ⟨Wg,1,none⟩ = some v:=let ⟨_,_,x⟩:=h; ⟨_,x.cellSm⟩
end Go.Phase
