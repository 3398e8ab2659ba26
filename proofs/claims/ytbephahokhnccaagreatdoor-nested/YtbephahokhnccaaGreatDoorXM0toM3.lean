import Derived.Test.YtbephahokhnccaaGreatDoorXL15toL18
import Derived.Test.YtbephahokhnccaaGreatDoorXK34toK55
import Derived.Test.YtbephahokhnccaaGreatDoorXK43toK47
import Derived.Test.YtbephahokhnccaaGreatDoorXH5toH6
set_option linter.unusedSectionVars false
set_option maxRecDepth 100000
set_option maxHeartbeats 8000000
namespace Go.Mark
open Go.RowKit Go.Proofs
variable [BaseB]
theorem Ac4 {f : Nat} {Φ Φ' : Value -> World -> Prop} (h : ∀ v w,Φ v w -> Φ' v w) : ∀ (n : Nat) (W : World),Rn f Φ n W -> Rn f Φ' n W
 | 0,_,hR=>hR
 | n + 1,W,hR=>by
  refine Calls.mono hR ?_
  rintro e w' (⟨t,v,rfl,hΦ⟩ | ⟨rfl,hR'⟩)
  ·exact .inl ⟨t,v,rfl,h _ _ hΦ⟩
  ·exact .inr ⟨rfl,Ac4 h n w' hR'⟩
theorem LG.keep {W W' : World} {l m : Nat} {dm : Dm} {cr : Int} {L : AL} {J : List Value} {T : List TypeId} {B : List Nat} (h : LG W l m dm cr L J) (hp : Pres B T W W') (hT : 128 ∉ T /\ 262 ∉ T /\ 136 ∉ T) (hB : ∀ k ∈ B,∀ o,W.heap[k]? = some o -> ∃ c t f,o = .cells c t f /\ t ≠ 128 /\ t ≠ 262 /\ t ≠ 136) : LG W' l m dm cr L J :=
 h.pres (h.lj.pres hp ⟨hT.1,hT.2.1⟩ (fun k hk o ho=>let ⟨c,t,f,h1,h2,h3,_⟩:=hB k hk o ho; ⟨c,t,f,h1,h2,h3⟩)) hp hT.2.2 (fun k hk o ho=>let ⟨c,t,f,h1,_,_,h4⟩:=hB k hk o ho; ⟨c,t,f,h1,h4⟩)
theorem LG.keep1 {W W' : World} {l m b : Nat} {dm : Dm} {cr : Int} {L : AL} {J : List Value} {T : List TypeId} {c : Array Value} {t : TypeId} {f : Nat × Nat} (h : LG W l m dm cr L J) (hp : Pres [b] T W W') (hb : W.heap[b]? = some (.cells c t f)) (hT : 128 ∉ T /\ 262 ∉ T /\ 136 ∉ T) (ht : t ≠ 128 /\ t ≠ 262 /\ t ≠ 136) : LG W' l m dm cr L J :=
 h.keep hp hT fun k hk o ho=>by
  obtain rfl : k = b:=by simpa using hk
  rw [hb] at ho
  cases ho
  exact ⟨_,_,_,rfl,ht⟩
theorem Ac7 (v : Value) (w : World) : (Go.method 543 174 v "Left").run TryQ.prog w = .ok (366,v) w:=by kernel_rfl
theorem Pres.drop {B : List Nat} {T : List TypeId} {w w' : World} {b : Nat} (h : Pres (b :: B) T w w') (hb : w.heap.size <= b) : Pres B T w w':=h.mono (fun k hk hm=>by
 rcases List.mem_cons.1 hm with e | e
 ·omega
 ·exact e) (fun t ht=>ht)
theorem Pres.low {B : List Nat} {T : List TypeId} {w w' : World} (h : Pres B T w w') (hB : ∀ k ∈ B,BaseB.b0 <= k) (hw : BaseB.b0 <= w.heap.size) : Below BaseB.b0 w w' :=
 ⟨h.os,h.tape,h.output,h.size,fun k hk=>h.floor hk (Nat.lt_of_lt_of_le hk hw) (fun e=>by have:=hB k e; omega)⟩
theorem Aeg {W : World} {f : Nat} {F : Frm} (hf : W.heap[f]? = ob (frC F ⟨none,0,0⟩) 225) (ht : F.text.size = 0) (hpl : F.place = 0) (hg : 0 <= F.gas) (hg' : F.gas < 100000000) :
  Rn f (fun v w'=>v = .iface 174 (.agg #[.int .i64 F.gas,.string ⟨#[]⟩]) /\ Pres [f] [] W w') 1 W:=by
 have hst:=step_end hf 0 1 0 (fun w hw=>Ul hw (by rw [ht,hpl]; decide)) (fun w hw=>Ala hw 0 0 0 0 Ac2 (Tf f) (Adn f) (by simp) (by decide) (by simp) (by decide) (by decide) hg hg' hg) Yc (by omega) (by omega) (by decide) (by decide) (fun w hw=>Adr hw)
 refine Calls.mono hst ?_
 rintro e w' ⟨rfl,hp⟩
 exact .inl ⟨_,_,rfl,by simp,hp⟩
theorem Acd {W : World} {l m mc : Nat} {dm : Dm} {cr : Int} {L : AL} {J : List Value} (h : LG W l m dm cr L J) (hm : W.heap[mc]? = ob (Aj l ⟨none,0,0⟩ 0 0) 165) {q p : Int × Nat × Ac} (hq : q ∈ L) (hp : p ∈ L) (hne : q.2.1 ≠ p.2.1) (hcode : p.2.2.code.size = 0) (x : Nat) (hx : x < M) (hle : x <= q.2.2.bal) (gas : Int) (data : SV) (hg : 0 <= gas) (hg' : gas < 100000000) (hJ : J.length < 90) :
  Calls TryQ.prog 92 #[pq mc 0,.agg (Eb q.1 p.1 x gas data)] W fun e w'=>∃ t v,e = .returned (.iface t v) /\ (Value.iface t v = .iface 174 (.agg #[.int .i64 gas,.string ⟨#[]⟩]) /\ LG w' l m dm cr (Ce (Ce L q.2.1 { q.2.2 with bal:=(q.2.2.bal + M - x) % M }) p.2.1 { p.2.2 with bal:=(p.2.2.bal + x) % M }) (J ++ [Hg q.2.1 q.2.2.bal] ++ [Hg p.2.1 p.2.2.bal]) /\ w'.heap[mc]? = ob (Aj l ⟨none,0,0⟩ 0 0) 165 /\ Pres [l,q.2.1,p.2.1,mc] [262] W w'):=by
 refine call92 (Ψ:=fun u w'=>u = .iface 174 (.agg #[.int .i64 gas,.string ⟨#[]⟩]) /\ LG w' l m dm cr (Ce (Ce L q.2.1 { q.2.2 with bal:=(q.2.2.bal + M - x) % M }) p.2.1 { p.2.2 with bal:=(p.2.2.bal + x) % M }) (J ++ [Hg q.2.1 q.2.2.bal] ++ [Hg p.2.1 p.2.2.bal]) /\ w'.heap[mc]? = ob (Aj l ⟨none,0,0⟩ 0 0) 165 /\ Pres [l,q.2.1,p.2.1,mc] [262] W w') h hm (by decide) hq hp hne x hx hle gas data (by omega) (fun w f hf hfl hmw hL hpr=>?_)
 have hfm : mc ≠ f:=Bc hmw hf (by decide)
 have hrun:=Vr (W:=w) (f:=f) (mc:=mc) (l:=l) (lg:=⟨none,0,0⟩) (back:=0) (depth:=0) (n:=1)
  (Φ:=fun v w'=>∃ w0,Pres [mc] [] w w0 /\ w0.heap[mc]? = ob (Aj l ⟨none,0,0⟩ 0 (0 + 1)) 165 /\ v = .iface 174 (.agg #[.int .i64 gas,.string ⟨#[]⟩]) /\ Pres [f] [] w0 w')
  hmw (by decide) (by decide)
  (fun w0 h1 h2=>?_) (fun v w' ⟨w0,h1,h2,h3,h4⟩=>⟨_,_,h4.obj h2 (by simp [I8]) (by simpa using hfm)⟩)
 rotate_left
 ·have hf0 : w0.heap[f]? = _:=h2.obj hf (by simp [I8]) (by simpa using Ne.symm hfm)
  exact Ac4 (fun v w' ⟨hv,hp⟩=>⟨w0,h2,h1,hv,hp⟩) _ _ (Aeg hf0 hcode rfl hg hg')
 refine hrun.mono ?_
 rintro e w3 ⟨t,v,w2,lg',back',rfl,⟨w0,h1,h2,h3,hp3⟩,h4,h5,h6⟩
 refine ⟨t,v,rfl,?_⟩
 have hf0 : w0.heap[f]? = _:=h1.obj hf (by simp [I8]) (by simpa using Ne.symm hfm)
 have hL0:=hL.keep1 h1 hmw (by simp) (by decide)
 have hL2:=hL0.keep1 hp3 hf0 (by simp) (by decide)
 have hL3:=hL2.keep1 h6 h4 (by simp) (by decide)
 have hmc2 : w2.heap[mc]? = _:=hp3.obj h2 (by simp [I8]) (by simpa using hfm)
 have hmc3 : w3.heap[mc]? = ob (Aj l ⟨none,0,0⟩ 0 0) 165:=by
  rw [hmc2] at h4
  simp only [Aj,Option.some.injEq,Obj.cells.injEq,Array.mk.injEq,List.cons.injEq,Value.slice.injEq,Value.int.injEq,true_and,and_true] at h4
  rw [h5]
  simp only [Aj,<- h4.1.1,<- h4.1.2.1,<- h4.1.2.2,<- h4.2]
 have hpW : Pres [l,q.2.1,p.2.1,mc] [262] W w3:=by
  have e1 : Pres [l,q.2.1,p.2.1,mc] [262] W w0:=(hpr.mono (fun k _ hk=>by simp at hk; simp; omega) (fun t ht=>ht)).trans (h1.mono (fun k _ hk=>by simp at hk; simp [hk]) (fun t ht=>by cases ht))
  have e2:=e1.thenx (hp3.mono (B':=[f]) (T':=[262]) (fun k _ hk=>hk) (fun t ht=>by cases ht)) (fun k hk=>by simp at hk; subst hk; exact .inr hfl)
  exact e2.trans (h6.mono (fun k _ hk=>by simp at hk; simp [hk]) (fun t ht=>by cases ht))
 simp only [Value.iface.injEq] at h3
 obtain ⟨rfl,rfl⟩:=h3
 refine (Hr mc _ w3).mono ?_
 rintro e w' ⟨rfl,rfl⟩
 exact ⟨_,_,rfl,rfl,hL3,hmc3,hpW⟩
structure Plain (a : Ac) (b : Nat) (n : Int) : Prop where
 bal : a.bal = b
 nonce : a.nonce = n
 code : a.code = ⟨#[]⟩
 sl : a.sl = []
def Kn (l m : Nat) (dm : Dm) (cr : Int) (p1 p2 b1 : Nat) (n1 : Int) (b2 : Nat) (jb : Nat) (w : World) : Prop :=
 ∃ J a1 a2,LG w l m dm cr [(1,p1,a1),(2,p2,a2)] J /\ Plain a1 b1 n1 /\ Plain a2 b2 0 /\ J.length < jb
def Kn3 (l m : Nat) (dm : Dm) (cr : Int) (p1 p2 : Nat) (w : World) : Prop :=
 ∃ J a1 a2 p3 a3,LG w l m dm cr [(1,p1,a1),(2,p2,a2),(3,p3,a3)] J /\ Plain a1 8993 1 /\ Plain a2 7 0 /\ Plain a3 21000 0
theorem Lh {p1 p2 : Nat} {i j : Int} {a1 a2 a : Ac} (h : p1 ≠ p2) : Ce [(i,p1,a1),(j,p2,a2)] p1 a = [(i,p1,a),(j,p2,a2)]:=by
 simp [Ce,Ne.symm h]
theorem Ah9 {p1 p2 : Nat} {i j : Int} {a1 a2 a : Ac} (h : p1 ≠ p2) : Ce [(i,p1,a1),(j,p2,a2)] p2 a = [(i,p1,a1),(j,p2,a)]:=by
 simp [Ce,h]
theorem Kn.below {l m : Nat} {dm : Dm} {cr : Int} {p1 p2 b1 : Nat} {n1 : Int} {b2 jb : Nat} {w w' : World} (h : Kn l m dm cr p1 p2 b1 n1 b2 jb w) (hb : Below w.heap.size w w') : Kn l m dm cr p1 p2 b1 n1 b2 jb w' :=
 let ⟨J,a1,a2,h1,h2⟩:=h; ⟨J,a1,a2,h1.below hb,h2⟩
def rKn : Rs:=⟨true,⟨#[]⟩,4000,0,21000,0,[]⟩
structure Am4 (W : World) (l m : Nat) (dm : Dm) (cr : Int) (p1 p2 mc : Nat) (t : TypeId) (v : Value) (r : Rs) (w : World) : Prop where
 kn : Kn l m dm cr p1 p2 4993 1 7 50 w
 mc : w.heap[mc]? = ob (Aj l ⟨none,0,0⟩ 0 0) 165
 pr : Pres [l,p1,p2,m] [262] W w
 how : t = 174 /\ v = .agg #[.int .i64 4000,.string ⟨#[]⟩]
 r : r = rKn
theorem mod1 : (30000 + M - 25000 * 1) % M = 5000:=by decide
theorem mod2 : (5000 + M - 7) % M = 4993:=by decide
theorem mod3 : (0 + 7) % M = 7:=by decide
theorem mod4 : (4993 + 4000 * 1) % M = 8993:=by decide
theorem Af7 {W : World} {l m dmb p1 p2 : Nat} {cr : Int} (h : Kn l m ⟨dmb,[]⟩ cr p1 p2 30000 0 0 10 W) (hne : p1 ≠ p2) :
  Calls TryQ.prog 33 #[pq l 0,.agg (Bl 1 2 0 7 ((25000 : Nat) : Int) ((1 : Nat) : Int) 3)] W fun e w'=>∃ (r : Rs) (lv : SV),e = .returned (.tuple #[.agg (Dl r.good r.k r.s lv),.nilIface]) /\ (r = rKn /\ Kn3 l m ⟨dmb,[]⟩ cr p1 p2 w' /\ Pres [l,p1,p2,m,dmb] [262] W w') /\ LgAt W.heap.size lv r.N r.xs w':=by
 have h0:=h
 obtain ⟨J0,a1,a2,hL,hP1,hP2,hJ0⟩:=h
 have hln:=hL.cell0.1
 have hn1 : p1 < W.heap.size:=Aa (hL.acc (1,p1,a1) (by simp))
 have hn2 : p2 < W.heap.size:=Aa (hL.acc (2,p2,a2) (by simp))
 have hmn:=hL.map.lt
 have hdn : dmb < W.heap.size:=hL.dmap.lt
 refine do33 (g:=25000) (p:=1) (x:=7)
  (S1:=fun w=>Kn l m ⟨dmb,[]⟩ cr p1 p2 5000 0 0 20 w /\ Pres [l,p1,p2,m] [262] W w)
  (S2:=Am4 W l m ⟨dmb,[]⟩ cr p1 p2)
  (S4:=fun r w=>r = rKn /\ Kn3 l m ⟨dmb,[]⟩ cr p1 p2 w /\ Pres [l,p1,p2,m,dmb] [262] W w)
  (S5:=fun r w=>r = rKn /\ Kn3 l m ⟨dmb,[]⟩ cr p1 p2 w /\ Pres [l,p1,p2,m,dmb] [262] W w)
  (by decide) (by decide) (fun w hb=>?_) (fun w hb=>?_) (fun w w' h1 hb=>⟨h1.1.below hb,h1.2.trans (.of_below hb _ _)⟩) (fun w mc h1 hmc hm=>?_) (fun mc t v r w w' h1 hb=>⟨h1.kn.below hb,(hb.block _ (Aa h1.mc)).trans h1.mc,h1.pr.trans (.of_below hb _ _),h1.how,h1.r⟩) (fun w mc t v r h2=>?_) (fun w mc t v r h2=>?_) (fun w mc t v r h2=>?_) (fun w mc t v r h2=>?_) (fun w r h4=>?_) (fun r w w' rb c h4 hrb hc hpp=>?_) (fun r w w' rb c h5 hrb hc hpp=>?_)
 ·exact Tn (hL.below hb) (q:=(1,p1,a1)) (by simp) (by show (1 : Int) ≠ 0; decide) 2 0 7 25000 1 3 (by decide) (by decide) (by decide) (by decide) (by decide) (by decide) (by decide) hP1.nonce (by decide) (by decide) (by decide) (by decide) (by show _ <= a1.bal; rw [hP1.bal]; decide)
 ·refine (Aaa (hL.below hb) (q:=(1,p1,a1)) (by simp) (25000 * 1) (by decide) (by omega)).mono ?_
  rintro e w' ⟨rfl,h1,h2⟩
  refine ⟨rfl,⟨?_,(Pres.of_below hb _ _).trans (h2.mono (fun k _ hk=>by simp at hk; simp; omega) (fun t ht=>ht))⟩,Kp.pres h2 (fun k hk=>by simp at hk; omega) (by decide) (by decide)⟩
  rw [Lh hne] at h1
  refine ⟨_,_,_,h1,⟨?_,hP1.nonce,hP1.code,hP1.sl⟩,hP2,by simp; omega⟩
  show (a1.bal + M - 25000 * 1) % M = 5000
  rw [hP1.bal]
  exact mod1
 ·obtain ⟨⟨J1,b1,b2,hL1,hQ1,hQ2,hJ1⟩,hpr1⟩:=h1
  refine Adv hL1 hm (q:=(1,p1,b1)) (by simp) 2 0 7 25000 1 3 (by decide) (by decide) (by decide) (by show 0 <= b1.nonce; rw [hQ1.nonce]; decide) (by show b1.nonce < _; rw [hQ1.nonce]; decide) (by omega)
   (Φ:=fun e w'=>∃ t v r,e = .returned (.iface t v) /\ Am4 W l m ⟨dmb,[]⟩ cr p1 p2 mc t v r w' /\ Kp W.heap.size w w')
   (fun e w' ⟨t,v,r,he,_⟩=>⟨t,v,he⟩) (fun w2 data hL2 hm2 hpr2=>?_)
  rw [Lh hne] at hL2
  obtain ⟨b3,hb3⟩ : ∃ b3 : Ac,b3 = { b1 with nonce:=b1.nonce + 1 }:=⟨_,rfl⟩
  have hQ3 : Plain b3 5000 1:=by rw [hb3]; exact ⟨hQ1.bal,by show b1.nonce + 1 = 1; rw [hQ1.nonce]; rfl,hQ1.code,hQ1.sl⟩
  have hL2' : LG w2 l m ⟨dmb,[]⟩ cr [(1,p1,b3),(2,p2,b2)] (J1 ++ [Ve p1 b1.nonce]):=by rw [hb3]; exact hL2
  have hcl:=Acd hL2' hm2 (q:=(1,p1,b3)) (p:=(2,p2,b2)) (by simp) (by simp) hne (by show b2.code.size = 0; rw [hQ2.code]; rfl) 7 (by decide) (by show 7 <= b3.bal; rw [hQ3.bal]; decide) (((25000 : Nat) : Int) - 21000) data (by decide) (by decide) (by simp; omega)
  refine hcl.mono ?_
  rintro e w' ⟨t,v,rfl,hv,hL3,hm3,hp3⟩
  simp only [Value.iface.injEq] at hv
  rw [Lh hne,Ah9 hne] at hL3
  have hP3 : Pres [mc,l,p1,p2,m] [262] W w':=((hpr1.trans (hpr2.mono (fun k _ hk=>by simp at hk; simp; omega) (fun t ht=>ht))).mono (fun k _ hk=>by simp at hk; simp; omega) (fun t ht=>ht)).trans (hp3.mono (fun k _ hk=>by simp at hk; simp; omega) (fun t ht=>ht))
  have hPw : Pres [l,p1,p2,mc] [262] w w':=(hpr2.mono (fun k _ hk=>by simp at hk; simp; omega) (fun t ht=>ht)).trans hp3
  refine ⟨t,v,rKn,rfl,⟨⟨_,_,_,hL3,⟨?_,hQ3.nonce,hQ3.code,hQ3.sl⟩,⟨?_,hQ2.nonce,hQ2.code,hQ2.sl⟩,by simp; omega⟩,hm3,hP3.drop hmc,⟨hv.1,hv.2⟩,rfl⟩,hPw.size,fun k c t hk ht hc=>hPw.obj hc (by rcases ht with rfl | rfl <;> simp [I8]) ?_⟩
  ·show (b3.bal + M - 7) % M = 4993
   rw [hQ3.bal]
   exact mod2
  ·show (b2.bal + 7) % M = 7
   rw [hQ2.bal]
   exact mod3
  ·have hkm : k ≠ mc:=fun e=>by
    subst e
    rw [hm] at hc
    simp only [Option.some.injEq,Obj.cells.injEq] at hc
    rcases ht with rfl | rfl <;> exact absurd hc.2.1 (by decide)
   simp only [List.mem_cons,List.not_mem_nil,or_false,not_or]
   omega
 ·obtain ⟨rfl,rfl⟩:=h2.how
  refine (Tg (N:=0) (xs:=[]) h2.mc _ _ (fun V hb=>(Ahe ((hb.block _ (Aa h2.mc)).trans h2.mc)).mono fun e w' ⟨h1,h3⟩=>⟨⟨none,0,0⟩,h1,by rw [h3]; exact Below.refl _ _,LgAt.none _ _⟩)).mono ?_
  rintro e w' ⟨lv,rfl,hb,hl⟩
  exact ⟨lv,by rw [h2.r]; rfl,hb,by rw [h2.r]; exact hl.mono h2.pr.size⟩
 ·obtain ⟨rfl,rfl⟩:=h2.how
  refine ⟨366,_,Ac7 _,TryQ.call366,(Jf _ _ w).mono ?_⟩
  rintro e w' ⟨rfl,hb⟩
  exact ⟨by rw [h2.r]; rfl,hb⟩
 ·exact (Aho h2.mc).mono fun e w' ⟨h1,h3⟩=>⟨by rw [h1,h2.r]; rfl,h3⟩
 ·obtain ⟨J1,b1,b2,hL1,hQ1,hQ2,hJ1⟩:=h2.kn
  rw [h2.r]
  refine (Aed hL1 (q:=(1,p1,b1)) (by simp) 3 (by simp) 2 0 7 25000 1 4000 21000 (by decide) (by decide) (by decide) (by omega)).mono ?_
  rintro e w' ⟨rfl,⟨pa,ms,J',hpa,hL4⟩,hp4⟩
  refine ⟨rfl,⟨rfl,?_,(h2.pr.mono (fun k _ hk=>by simp at hk; simp; omega) (fun t ht=>ht)).trans (hp4.mono (fun k _ hk=>by simp at hk; simp; omega) (fun t ht=>ht))⟩,Kq.pres hp4 (fun k hk=>by simp at hk; omega) (by decide) (by decide) (by decide)⟩
  rw [Lh hne] at hL4
  refine ⟨_,_,_,_,_,hL4,⟨?_,hQ1.nonce,hQ1.code,hQ1.sl⟩,hQ2,⟨rfl,rfl,rfl,rfl⟩⟩
  show (b1.bal + 4000 * 1) % M = 8993
  rw [hQ1.bal]
  exact mod4
 ·obtain ⟨hr,⟨J',b1,b2,p3,b3,hL3,hQ⟩,hpr⟩:=h4
  refine (Ol hL3).mono ?_
  rintro e w' ⟨rfl,hL4,h2⟩
  exact ⟨rfl,⟨hr,⟨_,_,_,_,_,hL4,hQ⟩,hpr.trans (h2.mono (fun k _ hk=>by simp at hk; simp; omega) (fun t ht=>by cases ht))⟩,Kq.pres h2 (fun k hk=>by simp at hk; omega) (by simp) (by simp) (by simp)⟩
 ·obtain ⟨hr,⟨J',b1,b2,p3,b3,hL3,hQ⟩,hpr⟩:=h4
  exact ⟨hr,⟨_,_,_,_,_,hL3.keep1 hpp hc (by simp) (by decide),hQ⟩,hpr.thenx (hpp.mono (fun k _ hk=>hk) (fun t ht=>by cases ht)) (fun k hk=>by simp at hk; subst hk; exact .inr hrb)⟩
 ·obtain ⟨hr,⟨J',b1,b2,p3,b3,hL3,hQ⟩,hpr⟩:=h5
  exact ⟨hr,⟨_,_,_,_,_,hL3.keep1 hpp hc (by simp) (by decide),hQ⟩,hpr.thenx (hpp.mono (fun k _ hk=>hk) (fun t ht=>by cases ht)) (fun k hk=>by simp at hk; subst hk; exact .inr hrb)⟩
def R6 (q : Int × Nat × Ac) : Bt:=⟨q.1,q.2.2.bal,q.2.2.nonce,q.2.2.code,q.2.2.sl⟩
theorem LG.ledger {W : World} {l m : Nat} {dm : Dm} {cr : Int} {L : AL} {J : List Value} (h : LG W l m dm cr L J) (hr : ∀ q ∈ L,0 <= q.1 /\ q.1 <= 4294967295) (hs : ∀ q ∈ L,q.2.2.sl.length < 1000000) (hn : L.length < 100000) : Qk W l (L.map fun q=>(R6 q,q.2.1)):=by
 refine ⟨⟨m,h.cell0.2,?_⟩,h.cell0.1,fun z hz=>?_,?_,fun z hz=>?_,by simpa using hn⟩
 ·have e : R5 (L.map fun q=>(R6 q,q.2.1)) = ids L:=by unfold R5 ids; rw [List.map_map]; rfl
  rw [e]
  exact h.map
 ·obtain ⟨q,hq,rfl⟩:=List.mem_map.1 hz
  refine ⟨⟨q.2.2.mark,q.2.2.ms,fun j v hj=>?_,h.slot q hq⟩,h.key q hq,h.ndk q hq,hs q hq⟩
  rw [Nat.zero_add,Ad (h.acc q hq) j]
  exact (List.getElem?_toArray (xs:=Qg (R6 q) q.2.2.mark q.2.2.ms)).trans hj
 ·rw [List.map_map]
  exact h.nd
 ·obtain ⟨q,hq,rfl⟩:=List.mem_map.1 hz
  exact hr q hq
theorem Aqn (b1 b2 b3 : Nat) (n1 n2 n3 : Int) (c1 c2 c3 : ByteArray) : told [⟨1,b1,n1,c1,[]⟩,⟨2,b2,n2,c2,[]⟩,⟨3,b3,n3,c3,[]⟩] = [⟨1,b1,n1,c1,[]⟩,⟨2,b2,n2,c2,[]⟩,⟨3,b3,n3,c3,[]⟩]:=by
 simp [told,sK,srt,U0]
theorem Aj7 {W : World} {l m dmb p1 p2 pw : Nat} {cr : Int} (h : Kn3 l m ⟨dmb,[]⟩ cr p1 p2 W) (hpw : W.cell? ⟨pw,0,none⟩ = some (pq l 0)) :
  Calls TryQ.prog 17 #[pq pw 0] W fun e w'=>∃ g cap cur,e = .returned (.slice (some ⟨g,0,none⟩) 3 cap) /\ Below W.heap.size W w' /\ w'.heap[g]? = ob cur 52 /\
   (∀ i,i < 4 -> cur[1 + i]? = some (.int .u64 (lim 8993 i)) /\ cur[9 + i]? = some (.int .u64 (lim 7 i)) /\ cur[17 + i]? = some (.int .u64 (lim 21000 i))) /\ cur[5]? = some (.int .i64 1) /\ 3 <= cap:=by
 obtain ⟨J,a1,a2,p3,a3,hL,hP1,hP2,hP3⟩:=h
 have hLe:=hL.ledger (fun q hq=>by simp at hq; rcases hq with rfl | rfl | rfl <;> simp) (fun q hq=>by simp at hq; rcases hq with rfl | rfl | rfl <;> simp [hP1.sl,hP2.sl,hP3.sl]) (by simp)
 refine (Re _ pw l W hpw hLe).mono ?_
 rintro e w' ⟨v,os,rfl,hb,hl,hos⟩
 have e1 : ([(1,p1,a1),(2,p2,a2),(3,p3,a3)].map fun q : Int × Nat × Ac=>(R6 q,q.2.1)).map (·.1) = [⟨1,8993,1,a1.code,[]⟩,⟨2,7,0,a2.code,[]⟩,⟨3,21000,0,a3.code,[]⟩]:=by
  simp [R6,hP1.bal,hP1.nonce,hP1.sl,hP2.bal,hP2.nonce,hP2.sl,hP3.bal,hP3.nonce,hP3.sl]
 rw [e1,Aqn] at hos
 obtain ⟨o1,o2,o3,rfl⟩ : ∃ o1 o2 o3,os = [o1,o2,o3]:=by
  have hlen:=congrArg List.length hos
  simp at hlen
  match os,hlen with
  | [o1,o2,o3],_=>exact ⟨o1,o2,o3,rfl⟩
 simp only [List.map_cons,List.map_nil,List.cons.injEq,and_true] at hos
 obtain ⟨ho1,ho2,ho3⟩:=hos
 rcases hl.own.2 with ⟨_,h2⟩ | ⟨g,cap,cur,h1,_,hg,hnc,_,hcs,ht⟩
 ·simp at h2
 ·simp only [Value.slice.injEq] at h1
  obtain ⟨h1,h2,h3⟩:=h1
  have hcell : ∀ i v,i < 24 -> (Ez [o1,o2,o3])[i]? = some v -> cur[i]? = some v:=fun i v hi hv=>by
   rw [<- ht,List.getElem?_take_of_lt (by simpa using hi),Array.getElem?_toList] at hv
   exact hv
  have hf : Ez [o1,o2,o3] = Am o1.1 o1.2 ++ (Am o2.1 o2.2 ++ (Am o3.1 o3.2 ++ [])):=rfl
  rw [hf,ho1,ho2,ho3] at hcell
  simp only [Am] at hcell
  refine ⟨g,cap,cur,?_,hb,hg,fun i hi=>?_,hcell 5 _ (by omega) rfl,by simpa using hnc⟩
  ·rw [h1,h2,h3]; rfl
  ·rcases (by omega : i = 0 \/ i = 1 \/ i = 2 \/ i = 3) with rfl | rfl | rfl | rfl <;> exact ⟨hcell _ _ (by omega) rfl,hcell _ _ (by omega) rfl,hcell _ _ (by omega) rfl⟩
end Go.Mark
namespace Go.Mark
open Go.RowKit Go.Proofs Go.Lift
variable [BaseB]
attribute [local go_sem] wd
noncomputable def ops12 : Array Oper:=match Tryz.f12.body with
 | some (.seq _ (.seq (.region _ o _) _))=>o
 | _=>#[]
noncomputable def c12 : Code:=match Tryz.f12.body with
 | some (.seq _ (.seq _ c))=>c
 | _=>.skip
theorem Agz : Gl Tryz.prog ops12 = true:=by kernel_rfl
theorem Ag0 : Br Tryz.prog c12 = true:=by kernel_rfl
theorem Je (n : Nat) (h : n < M) (W : World) : (Op.equalIn 10000 41 (wd n) (wd n)).run TryQ.prog W = .ok true W:=by
 have:=Vn n n h h W
 rw [decide_eq_true rfl] at this
 exact this
theorem Kj (n : Nat) (hn : n < 1000000000) (W : World) : Calls TryQ.prog 21 #[.int .i64 (n : Int)] W fun e w'=>e = .returned (wd n) /\ Below W.heap.size W w':=by
 rw [Hu n (by omega)]
 have i1 : IntKind.u64.wrap (n : Int) = (n : Int):=IntWalk.u64_in _ (by omega)
 go_enter TryQ.func21,Tryz.ntmps21
 go_wp2
 simp [bodyPost,results,Tryz.results21,go_sem]
 exact ba
theorem Af8 {W : World} {l m dmb p1 p2 pw : Nat} {cr : Int} (h : Kn l m ⟨dmb,[]⟩ cr p1 p2 30000 0 0 10 W) (hne : p1 ≠ p2) (hpo : W.heap[pw]? = ob #[pq l 0] 87) :
  Calls TryQ.prog 15 #[pq pw 0,.agg (Bl 1 2 0 7 ((25000 : Nat) : Int) ((1 : Nat) : Int) 3)] W fun e w'=>∃ (r : Rs) (lv : SV),e = .returned (.tuple #[.agg (Dl r.good r.k r.s lv),.nilIface]) /\ (r = rKn /\ Kn3 l m ⟨dmb,[]⟩ cr p1 p2 w' /\ Pres [l,p1,p2,m,dmb] [262] W w') /\ LgAt W.heap.size lv r.N r.xs w':=by
 have hpw : W.cell? ⟨pw,0,none⟩ = some (pq l 0):=by rw [Ad hpo 0]; rfl
 refine do15 (S5:=fun r w=>r = rKn /\ Kn3 l m ⟨dmb,[]⟩ cr p1 p2 w /\ Pres [l,p1,p2,m,dmb] [262] W w) hpw (Aa hpo) (fun w hb=>?_) (fun r w w' rb c h5 hrb hc hpp=>?_)
 ·refine (Af7 (h.below hb) hne).mono ?_
  rintro e w' ⟨r,lv,rfl,⟨h1,h2,h3⟩,hlv⟩
  obtain ⟨J0,a1,a2,hL,_⟩:=h
  have hln:=hL.cell0.1
  have hn1 : p1 < W.heap.size:=Aa (hL.acc (1,p1,a1) (by simp))
  have hn2 : p2 < W.heap.size:=Aa (hL.acc (2,p2,a2) (by simp))
  have hmn:=hL.map.lt
  have hdn : dmb < W.heap.size:=hL.dmap.lt
  refine ⟨r,lv,rfl,⟨h1,h2,(Pres.of_below hb _ _).trans h3⟩,hlv.mono hb.size,h3.size,Kp.pres h3 (fun k hk=>by simp at hk; omega) (by decide) (by decide),?_⟩
  have how:=bk hb hpo
  obtain ⟨jv,hl,_⟩:=hL.lj.ex
  obtain ⟨em,cm,hm⟩ : ∃ es c,W.heap[m]? = some (.map es c):=let ⟨es,c,h1,_⟩:=hL.map; ⟨es,c,h1⟩
  obtain ⟨cd',hd⟩:=Jm hL.dmap
  have ho' : w'.heap[pw]? = _:=h3.obj how (by show (87 : Nat) ∉ [262]; decide) (by
   simp only [List.mem_cons,List.not_mem_nil,or_false,not_or]
   exact ⟨Bc hpo hl (by decide),Bc hpo (hL.acc (1,p1,a1) (by simp)) (by decide),Bc hpo (hL.acc (2,p2,a2) (by simp)) (by decide),Ci hpo hm (fun e=>by cases e),Ci hpo hd (fun e=>by cases e)⟩)
  simp only [World.cell?,ho',hpo]
 ·obtain ⟨hr,⟨J',b1,b2,p3,b3,hL3,hQ⟩,hpr⟩:=h5
  exact ⟨hr,⟨_,_,_,_,_,hL3.keep1 hpp hc (by simp) (by decide),hQ⟩,hpr.thenx (hpp.mono (fun k _ hk=>hk) (fun t ht=>by cases ht)) (fun k hk=>by simp at hk; subst hk; exact .inr hrb)⟩
structure Bz (u v : World) : Prop extends Below BaseB.b0 u v where
 kz : ∀ (b : Nat) (e : TypeId),u.heap[b]? = some (.cells #[] e) -> ∃ c f,v.heap[b]? = some (.cells c e f)
theorem Bz.grow {u v v' : World} (h : Bz u v) (hb0 : BaseB.b0 <= u.heap.size) (k : Below v.heap.size v v') : Bz u v' :=
 ⟨h.toBelow.trans ⟨k.os,k.tape,k.output,k.size,fun b hb=>k.block b (by have:=h.size; omega)⟩,fun b e he=>let ⟨c,f,h1⟩:=h.kz b e he; ⟨c,f,(k.block b (Array.getElem?_eq_some_iff.1 h1).1).trans h1⟩⟩
theorem Bz.drew {u v : World} (h : Bz u v) : Bz u v.drew:=⟨h.toBelow.drew,h.kz⟩
theorem Pres.bz {B : List Nat} {T : List TypeId} {u v : World} (h : Pres B T u v) (hf : Below BaseB.b0 u v) (hn : ∀ b ∈ B,∀ e,u.heap[b]? ≠ some (.cells #[] e)) : Bz u v:=by
 refine ⟨hf,fun b e he=>?_⟩
 rcases h.block b (Array.getElem?_eq_some_iff.1 he).1 (fun hb=>hn b hb e he) with h1 | ⟨t,c,c',_,_,h1,h2⟩
 ·exact ⟨_,_,h1.trans he⟩
 ·rw [he] at h1
  cases h1
  exact ⟨_,_,h2⟩
theorem Km {w : World} {b : Nat} {c : Array Value} {t : TypeId} (h : w.heap[b]? = ob c t) (hc : 0 < c.size) (e : TypeId) : w.heap[b]? ≠ some (.cells #[] e):=fun h'=>by
 rw [h] at h'
 cases h'
 simp at hc
theorem P5 {w : World} {b : Nat} {es c} (h : w.heap[b]? = some (.map es c)) (e : TypeId) : w.heap[b]? ≠ some (.cells #[] e):=fun h'=>by
 rw [h] at h'
 cases h'
theorem Anx {u : World} {l m dmb p1 p2 pw : Nat} {cr : Int} (x7 x8 x9 x10 : Value) (h : Kn l m ⟨dmb,[]⟩ cr p1 p2 30000 0 0 10 u) (hne : p1 ≠ p2) (hpo : u.heap[pw]? = ob #[pq l 0] 87) (hb0 : BaseB.b0 <= u.heap.size) (Ψ : Value -> World -> Prop) (hΨ : ∀ v',Bz u v' -> Ψ (.bool true) v') :
  wpOps TryQ.prog ops12 (fun e a' v'=>e = .normal /\ c12.wp TryQ.prog (bodyPost TryQ.prog Tryz.f12 fun e v'=>∃ val,e = .returned val /\ Ψ val v') a' v') [5,6,7,8,9] ⟨#[.bool false,ud,ud,ud,ud,ud,ud,x7,x8,x9,x10,.tuple #[pq pw 0,.nilIface],ud,ud,ud,ud,ud,ud,ud,ud,ud,ud,ud,ud,ud,ud,ud,ud,ud,ud,ud,ud,ud,ud,ud,ud,ud,ud,ud,ud] ++ #[ud,ud,ud,ud,ud,ud,ud,ud,ud,ud,ud,ud,ud,ud,ud,ud,ud,ud,ud,ud,ud,ud,ud,ud,ud,ud,ud,ud,ud,ud,ud,ud,ud,ud,ud,ud],[]⟩ u:=by
 simp only [List.append_toArray,List.cons_append,List.nil_append]
 obtain ⟨fn,hfn⟩ : ∃ fn,fn = Tryz.f12:=⟨_,rfl⟩
 have hres : fn.results = #[ResultVar.tmp 0]:=by rw [hfn]; exact Tryz.results12
 rw [<- hfn]
 clear hfn
 obtain ⟨lo,hlo⟩ : ∃ l,l = ops12.toList.drop 5:=⟨_,rfl⟩
 have hlo':=hlo
 simp only [ops12,Tryz.f12,List.drop_succ_cons,List.drop_zero] at hlo'
 refine Ql lo 5 5 (by rw [hlo']; rfl) (fun j=>by rw [hlo]; simp) ?_
 rw [hlo']
 dsimp only [c12,ops12,Tryz.f12]
 clear hlo' hlo lo
 have hof : Calls TryQ.prog 21 #[.int .i64 7] u _:=Kj 7 (by decide) u
 go_wp2_with fail
 refine hof.mono ?_
 rintro e w1 ⟨rfl,hb1⟩
 clear hof
 have hdo:=Af8 (h.below hb1) hne ((hb1.block _ (Aa hpo)).trans hpo)
 unfold Bl at hdo
 have e25 : ((25000 : Nat) : Int) = 25000:=rfl
 have e1 : ((1 : Nat) : Int) = 1:=rfl
 rw [e25,e1] at hdo
 unfold wd
 go_wp2_with fail
 refine hdo.mono ?_
 rintro e w2 ⟨r,lv,rfl,⟨rfl,hK3,hp2⟩,_⟩
 clear hdo
 have hrc : Dl rKn.good rKn.k rKn.s lv = #[.bool true,.int .i64 21000,.int .i64 0,.slice lv.a lv.n lv.c,.string ⟨#[]⟩]:=rfl
 rw [hrc]
 clear hrc e25 e1
 have hb3 : Below w2.heap.size w2 (w2.alloc (.cells #[.bool true,.int .i64 21000,.int .i64 0,.slice lv.a lv.n lv.c,.string ⟨#[]⟩] 34)):=ba
 have hr3:=Al w2 (.cells #[.bool true,.int .i64 21000,.int .i64 0,.slice lv.a lv.n lv.c,.string ⟨#[]⟩] 34)
 obtain ⟨J9,b1,b2,p3,b3,hL9,hQ9⟩:=hK3
 have hL9b:=hL9.below hb3
 have hK3b : Kn3 l m ⟨dmb,[]⟩ cr p1 p2 (w2.alloc (.cells #[.bool true,.int .i64 21000,.int .i64 0,.slice lv.a lv.n lv.c,.string ⟨#[]⟩] 34)):=⟨J9,b1,b2,p3,b3,hL9b,hQ9⟩
 have hpo2 : w2.heap[pw]? = ob #[pq l 0] 87:=by
  obtain ⟨J0,a1,a2,hL,_⟩:=h
  have hpo1:=bk hb1 hpo
  have hLb:=hL.below hb1
  obtain ⟨jv,hl,_⟩:=hLb.lj.ex
  obtain ⟨em,cm,hm⟩ : ∃ es c,w1.heap[m]? = some (.map es c):=let ⟨es,c,h1,_⟩:=hLb.map; ⟨es,c,h1⟩
  obtain ⟨cd',hd⟩:=Jm hLb.dmap
  refine hp2.obj hpo1 (by show (87 : Nat) ∉ [262]; decide) ?_
  simp only [List.mem_cons,List.not_mem_nil,or_false,not_or]
  exact ⟨Bc hpo1 hl (by decide),Bc hpo1 (hLb.acc (1,p1,a1) (by simp)) (by decide),Bc hpo1 (hLb.acc (2,p2,a2) (by simp)) (by decide),Ci hpo1 hm (fun e=>by cases e),Ci hpo1 hd (fun e=>by cases e)⟩
 have hac:=Aj7 hK3b (by rw [Ad ((hb3.block _ (Aa hpo2)).trans hpo2) 0]; rfl)
 have hfl : Bz u w2:=by
  obtain ⟨J0,a1,a2,hL,_⟩:=h
  have hLb:=hL.below hb1
  have e1 : Below BaseB.b0 u w1:=⟨hb1.os,hb1.tape,hb1.output,hb1.size,fun k hk=>hb1.block k (by omega)⟩
  have e2:=hp2.low (fun k hk=>by
   have h1:=(hL.lo (1,p1,a1) (by simp)).1
   have h2:=(hL.lo (2,p2,a2) (by simp)).1
   have h3:=hL.mlo
   have h4:=hL.lj.lo
   simp only [List.mem_cons,List.not_mem_nil,or_false] at hk
   simp only at h1 h2 h3
   omega) (Nat.le_trans hb0 hb1.size)
  have e3:=hp2.bz e2 (fun b hb=>by
   obtain ⟨jv,hl,_⟩:=hLb.lj.ex
   obtain ⟨em,cm,hm⟩ : ∃ es c,w1.heap[m]? = some (.map es c):=let ⟨es,c,h1,_⟩:=hLb.map; ⟨es,c,h1⟩
   obtain ⟨cd',hd⟩:=Jm hLb.dmap
   simp only [List.mem_cons,List.not_mem_nil,or_false] at hb
   rcases hb with rfl | rfl | rfl | rfl | rfl
   ·exact Km hl (by simp)
   ·exact Km (hLb.acc (1,b,a1) (by simp)) (by simp [Bd])
   ·exact Km (hLb.acc (2,b,a2) (by simp)) (by simp [Bd])
   ·exact P5 hm
   ·exact P5 hd)
  exact ⟨e1.trans e2,fun b e he=>e3.kz b e ((hb1.block b (Array.getElem?_eq_some_iff.1 he).1).trans he)⟩
 clear h hp2 hK3b hL9b hL9 hpo hb1
 go_wp2_with fail
 change Calls _ _ _ (w2.alloc (.cells #[.bool true,.int .i64 21000,.int .i64 0,.slice lv.a lv.n lv.c,.string ⟨#[]⟩] 34)) _
 generalize hw3 : w2.alloc (.cells #[.bool true,.int .i64 21000,.int .i64 0,.slice lv.a lv.n lv.c,.string ⟨#[]⟩] 34) = w3 at hb3 hr3 hac ⊢
 refine hac.mono ?_
 rintro e w4 ⟨g,cap,cur,rfl,hb4,hg,hcu,hcn,hcap⟩
 clear hac
 have hr4:=bk hb4 hr3
 have hrl:=Aa hr4
 generalize w2.heap.size = rb at hr4 hrl ⊢
 have hfl4 : Bz u w4:=(hfl.grow hb0 hb3).grow hb0 hb4
 have hlow4 : BaseB.b0 <= w4.heap.size:=Nat.le_trans hb0 hfl4.size
 clear hr3 hb3 hb4 hfl hw3
 have hgl:=Aa hg
 go_wp2_with fail
 refine rq (fun V=>V.heap[rb]? = ob #[.bool true,.int .i64 21000,.int .i64 0,.slice lv.a lv.n lv.c,.string ⟨#[]⟩] 34 /\ V.heap[g]? = ob cur 52 /\ Bz u V) ⟨hr4,hg,hfl4.drew⟩ fun hH=>?_
 refine tx 0 29 .nilIface hH ?_
 refine tx 1 30 (.bool true) hH ?_
 refine tx 2 31 (.bool true) hH ?_
 refine tx 3 32 (pq rb 0) hH ?_
 refine tv 4 33 (.bool true) (fun _ hW=>bq hW.1 0 rfl) hH ?_
 refine tx 5 34 (.bool true) hH ?_
 refine tx 6 35 (.bool true) hH ?_
 refine tx 7 36 (pq rb 1) hH ?_
 refine tv 8 37 (.int .i64 21000) (fun _ hW=>bq hW.1 1 rfl) hH ?_
 refine tx 9 38 (.bool true) hH ?_
 refine tx 10 39 (.bool true) hH ?_
 refine tx 11 40 (.bool true) hH ?_
 refine tx 12 41 (.slice (some ⟨g,0,none⟩) 3 cap) hH ?_
 refine tx 13 42 (.int .i64 3) hH ?_
 refine tx 14 43 (.bool true) hH ?_
 refine tx 15 44 (.bool true) hH ?_
 refine tx 16 45 (.bool true) hH ?_
 refine tx 17 46 (.slice (some ⟨g,0,none⟩) 3 cap) hH ?_
 refine tx 18 47 (pq g 0) hH ?_
 refine tx 19 48 (pq g 1) hH ?_
 refine td (i:=20) (d:=some 49) (v:=wd 8993) rfl rfl (fun V hW=>?_) hH ?_
 ·have k0:=(Ad hW.2.1 (1 + 0)).trans (hcu 0 (by omega)).1
  have k1:=(Ad hW.2.1 (1 + 1)).trans (hcu 1 (by omega)).1
  have k2:=(Ad hW.2.1 (1 + 2)).trans (hcu 2 (by omega)).1
  have k3:=(Ad hW.2.1 (1 + 3)).trans (hcu 3 (by omega)).1
  simp only [Nat.reduceAdd,Nat.add_zero] at k0 k1 k2 k3
  clear hW hH hcu
  go_simp
 refine r1 21 fun K hK=>?_
 go_simp
 refine Calls.mono (show Calls TryQ.prog 21 #[.int .i64 8993] _ _ from Kj 8993 (by decide) _) ?_
 rintro e V1 ⟨rfl,hbn⟩
 go_wp2_with fail
 refine hK.out _ _ ⟨(hbn.block _ (Aa hH.1)).trans hH.1,(hbn.block _ (Aa hH.2.1)).trans hH.2.1,hH.2.2.grow hb0 hbn⟩ fun hH=>?_
 clear hK K hbn
 refine td (i:=22) (d:=some 51) (v:=.bool true) rfl rfl (fun V hW=>?_) hH ?_
 ·have heq:=Je 8993 (by decide) V
  clear hW hH hcu
  unfold wd at heq
  (try unfold wd)
  go_simp
 refine tx 23 52 (.bool true) hH ?_
 refine tx 24 53 (.bool true) hH ?_
 refine tx 25 54 (.slice (some ⟨g,0,none⟩) 3 cap) hH ?_
 refine tx 26 55 (pq g 8) hH ?_
 refine tx 27 56 (pq g 9) hH ?_
 refine td (i:=28) (d:=some 57) (v:=wd 7) rfl rfl (fun V hW=>?_) hH ?_
 ·have k0:=(Ad hW.2.1 (9 + 0)).trans (hcu 0 (by omega)).2.1
  have k1:=(Ad hW.2.1 (9 + 1)).trans (hcu 1 (by omega)).2.1
  have k2:=(Ad hW.2.1 (9 + 2)).trans (hcu 2 (by omega)).2.1
  have k3:=(Ad hW.2.1 (9 + 3)).trans (hcu 3 (by omega)).2.1
  simp only [Nat.reduceAdd,Nat.add_zero] at k0 k1 k2 k3
  clear hW hH hcu
  go_simp
 refine r1 29 fun K hK=>?_
 go_simp
 refine Calls.mono (show Calls TryQ.prog 21 #[.int .i64 7] _ _ from Kj 7 (by decide) _) ?_
 rintro e V1 ⟨rfl,hbn⟩
 go_wp2_with fail
 refine hK.out _ _ ⟨(hbn.block _ (Aa hH.1)).trans hH.1,(hbn.block _ (Aa hH.2.1)).trans hH.2.1,hH.2.2.grow hb0 hbn⟩ fun hH=>?_
 clear hK K hbn
 refine td (i:=30) (d:=some 59) (v:=.bool true) rfl rfl (fun V hW=>?_) hH ?_
 ·have heq:=Je 7 (by decide) V
  clear hW hH hcu
  unfold wd at heq
  (try unfold wd)
  go_simp
 refine tx 31 60 (.bool true) hH ?_
 refine tx 32 61 (.bool true) hH ?_
 refine tx 33 62 (.slice (some ⟨g,0,none⟩) 3 cap) hH ?_
 refine tx 34 63 (pq g 16) hH ?_
 refine tx 35 64 (pq g 17) hH ?_
 refine td (i:=36) (d:=some 65) (v:=wd 21000) rfl rfl (fun V hW=>?_) hH ?_
 ·have k0:=(Ad hW.2.1 (17 + 0)).trans (hcu 0 (by omega)).2.2
  have k1:=(Ad hW.2.1 (17 + 1)).trans (hcu 1 (by omega)).2.2
  have k2:=(Ad hW.2.1 (17 + 2)).trans (hcu 2 (by omega)).2.2
  have k3:=(Ad hW.2.1 (17 + 3)).trans (hcu 3 (by omega)).2.2
  simp only [Nat.reduceAdd,Nat.add_zero] at k0 k1 k2 k3
  clear hW hH hcu
  go_simp
 refine r1 37 fun K hK=>?_
 go_simp
 refine Calls.mono (show Calls TryQ.prog 21 #[.int .i64 21000] _ _ from Kj 21000 (by decide) _) ?_
 rintro e V1 ⟨rfl,hbn⟩
 go_wp2_with fail
 refine hK.out _ _ ⟨(hbn.block _ (Aa hH.1)).trans hH.1,(hbn.block _ (Aa hH.2.1)).trans hH.2.1,hH.2.2.grow hb0 hbn⟩ fun hH=>?_
 clear hK K hbn
 refine td (i:=38) (d:=some 67) (v:=.bool true) rfl rfl (fun V hW=>?_) hH ?_
 ·have heq:=Je 21000 (by decide) V
  clear hW hH hcu
  unfold wd at heq
  (try unfold wd)
  go_simp
 refine tx 39 68 (.bool true) hH ?_
 refine tx 40 69 (.bool true) hH ?_
 refine tx 41 70 (.slice (some ⟨g,0,none⟩) 3 cap) hH ?_
 refine tx 42 71 (pq g 0) hH ?_
 refine tx 43 72 (pq g 5) hH ?_
 refine td (i:=44) (d:=some 73) (v:=.int .i64 1) rfl rfl (fun V hW=>?_) hH ?_
 ·have k0:=(Ad hW.2.1 5).trans hcn
  clear hW hH hcu
  go_simp
 refine tx 45 74 (.bool true) hH ?_
 refine tx 46 75 (.bool true) hH ?_
 refine tx 47 0 (.bool true) hH ?_
 refine dn ?_
 have hfin:=hΨ _ hH.2.2
 clear hΨ hcu
 go_wp2
 simp [bodyPost,results,hres,go_sem]
 exact hfin
end Go.Mark
