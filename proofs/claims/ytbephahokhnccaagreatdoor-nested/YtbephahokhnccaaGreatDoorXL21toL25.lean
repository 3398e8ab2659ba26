import Derived.Test.YtbephahokhnccaaGreatDoorXL14toL20
set_option linter.unusedSectionVars false
set_option maxHeartbeats 4000000
namespace Go.Mark
open Go.RowKit Go.Proofs
variable [BaseB]
section
section
variable {W : World} {mc l m : Nat} {dm : Dm} {cr : Int} {L : AL} {J : List Value} {lg : SV} {back depth gas : Int} {a d li ni : Addr} {last : UInt8}
def Lb (L : AL) (q p : Int × Nat × Ac) (y z : Nat) : AL:=Ce (Ce L q.2.1 { q.2.2 with bal:=y }) p.2.1 { p.2.2 with bal:=z }
def pb (p : Int × Nat × Ac) (z : Nat) : Int × Nat × Ac:=(p.1,p.2.1,{ p.2.2 with bal:=z })
def Rs2 (q p : Int × Nat × Ac) : List Value:=[Hg p.2.1 p.2.2.bal,Hg q.2.1 q.2.2.bal]
theorem Am7 (W : World) (h : BaseB.b1 <= W.heap.size) : Stk W ⟨none,0,0⟩ []:=⟨⟨by simp [fw],.inl ⟨rfl,rfl⟩⟩,by simp,h⟩
theorem Zv (h : LG W l m dm cr L J) (hm : W.heap[mc]? = ob (Aj l lg back depth) 165) (ow : W.ownsRow BaseB.b0 95 6 (.slice lg.a lg.n lg.c) 0 []) (gb : Gb W a d li ni) (hb1 : BaseB.b1 <= W.heap.size) (hdp : 0 <= depth /\ depth < 60) {q p : Int × Nat × Ac} (hq : q ∈ L) (hp : p ∈ L) (hne : q.2.1 ≠ p.2.1) (x : Nat) (hx : x < M) (hle : x <= q.2.2.bal) {y z : Nat} (hy : (q.2.2.bal + M - x) % M = y) (hz : (p.2.2.bal + x) % M = z) (hg : 0 <= gas /\ gas < 100000000) (hcode : p.2.2.code.data = cdC last) (hl : last = 0 \/ last = 255) (hsl : p.2.2.sl = []) (hJ : J.length < 900) (hlo : BaseB.b0 <= mc) :
    Calls TryQ.prog 92 #[pq mc 0,.agg (Eb q.1 p.1 x gas ⟨none,0,0⟩)] W fun e w'=>∃ t v,e = .returned (.iface t v) /\ ∃ f',W.heap.size <= f' /\ U6 [f',l,q.2.1,p.2.1,p.2.2.ms,mc] W mc l m dm cr L J (L1 (Lb L q p y z) (pb p z)) (J1 (J ++ (Rs2 q p).reverse) (pb p z)) back depth a d li ni p.1 gas last (.iface t v) w':=by
 have hn0:=(Vp ow).1
 have hmW:=Aa hm
 obtain ⟨jv,hol,_⟩:=h.lj.ex
 have hlW:=Aa hol
 have hqW:=Aa (h.acc q hq)
 have hpW:=Aa (h.acc p hp)
 have hmsW:=(h.slot p hp).lt
 have hpa : p ∈ Ce L q.2.1 { q.2.2 with bal:=y }:=Ev hp (fun e=>hne e.symm) _
 have hpb : pb p z ∈ Lb L q p y z:=Fx hpa _
 have hqb : (q.1,q.2.1,{ q.2.2 with bal:=y }) ∈ Lb L q p y z:=Ev (q:=(q.1,q.2.1,{ q.2.2 with bal:=y })) (Fx hq _) hne _
 have hnd1 : ((Ce L q.2.1 { q.2.2 with bal:=y }).map (·.2.1)).Nodup:=by rw [Li]; exact h.ndb
 have hnd2 : ((Lb L q p y z).map (·.2.1)).Nodup:=by unfold Lb; rw [Li]; exact hnd1
 refine call92 (Ψ:=fun v w=>∃ f',W.heap.size <= f' /\ U6 [f',l,q.2.1,p.2.1,p.2.2.ms,mc] W mc l m dm cr L J (L1 (Lb L q p y z) (pb p z)) (J1 (J ++ (Rs2 q p).reverse) (pb p z)) back depth a d li ni p.1 gas last v w) h hm (by omega) hq hp hne x hx hle gas ⟨none,0,0⟩ (by omega) (fun w f hf hge hm' hL hpr=>?_)
 rw [hy,hz] at hL
 clear hy hz
 have hBlo : ∀ k ∈ [l,q.2.1,p.2.1],BaseB.b0 <= k:=fun k hk=>by
  simp only [List.mem_cons,List.not_mem_nil,or_false] at hk
  rcases hk with rfl | rfl | rfl
  · exact h.lj.lo
  · exact (h.lo q hq).1
  · exact (h.lo p hp).1
 have Mw : Md [f,l,q.2.1,p.2.1,p.2.2.ms,mc] W w mc l m dm cr (Lb L q p y z) (J ++ (Rs2 q p).reverse) lg back depth 0 [] a d li ni:=⟨by have:=hL; simp only [List.append_assoc] at this; exact this,hm',Ta ow hpr (by decide) (fun k hk c hc=>by
    simp only [List.mem_cons,List.not_mem_nil,or_false] at hk
    rcases hk with rfl | rfl | rfl
    · rw [hol] at hc; cases hc
    · rw [h.acc q hq] at hc; cases hc
    · rw [h.acc p hp] at hc; cases hc),gb.pres hpr hBlo,hpr.mono (fun k _ hk=>by simp only [List.mem_cons,List.not_mem_nil,or_false] at hk; rcases hk with rfl | rfl | rfl <;> simp) (fun t ht=>by simp at ht; simp [ht])⟩
 have hf' : BaseB.b0 <= f:=Nat.le_trans (Nat.le_trans BaseB.le hb1) hge
 refine Calls.mono (run_end (q:=pb p z) (F:=⟨mc,(J.length : Int),(lg.n : Int),back,p.2.2.code,p.2.2.mark,p.1,q.1,x,⟨none,0,0⟩,gas,0,0⟩) (sv:=⟨none,0,0⟩) (B':=[p.2.1,q.2.1,p.2.2.ms]) Mw rfl ⟨by simp,by simp,by simp [pb],by simp⟩ (fun k hk=>?_) ⟨hf',hlo⟩ hcode hl hf (Am7 w (Nat.le_trans hb1 hpr.size)) hpb rfl (by simp [pb,hsl,Cy]) (by simp [Rs2]; omega) hg.1 hg.2 hdp.1 (by omega) hlW rfl (by show (lg.n : Int) = _; rw [hn0]) rfl ⟨_,Vd hpa hnd1 (h.bal p hp) (by simp) _,_,Vd hq h.ndb (h.bal q hq) (by simp) _,rfl⟩ ⟨_,Adb hpb hnd2 (by simp [pb,hsl,D9,Pw]) (by simp [pb]),_,Vd hpa hnd1 (h.bal p hp) (by simp) _,_,Vd hq h.ndb (h.bal q hq) (by simp) _,rfl⟩) ?_
 · simp only [List.mem_cons,List.not_mem_nil,or_false] at hk
   rcases hk with rfl | rfl | rfl
   · exact ⟨by simp,(h.lo p hp).1,Bc (h.acc p hp) hm (by decide),hpW,_,hpb,.inl rfl⟩
   · refine ⟨by simp,(h.lo q hq).1,Bc (h.acc q hq) hm (by decide),hqW,_,hqb,.inl rfl⟩
   · obtain ⟨es,ec,hmo,_⟩:=h.slot p hp
     exact ⟨by simp,(h.lo p hp).2,Ci hmo hm (fun e=>by cases e),hmsW,_,hpb,.inr rfl⟩
 · rintro e w' ⟨t,v,rfl,hc⟩
   refine ⟨t,v,rfl,hc.mono ?_⟩
   rintro e w'' ⟨t,v,rfl,hE⟩
   exact ⟨t,v,rfl,f,hge,hE⟩
theorem Zm {f : Nat} {F : Frm} {sv : SV} (h : LG W l m dm cr L J) (hm : W.heap[mc]? = ob (Aj l lg back depth) 165) (ow : W.ownsRow BaseB.b0 95 6 (.slice lg.a lg.n lg.c) 0 []) (gb : Gb W a d li ni) (hb1 : BaseB.b1 <= W.heap.size) (hdp : 0 <= depth /\ depth < 60) (hf : W.heap[f]? = ob (frC F sv) 225) {q p : Int × Nat × Ac} (hq : q ∈ L) (hself : q.1 = F.self) (hp : p ∈ L) (hg : 0 <= gas /\ gas < 100000000) (hcode : p.2.2.code.data = cdC last) (hl : last = 0 \/ last = 255) (hsl : q.2.2.sl = []) (hJ : J.length < 900) (hlo : BaseB.b0 <= mc) :
    Calls TryQ.prog 344 #[pq mc 0,.int .i64 p.1,pq f 0,.int .i64 gas,.slice none 0 0] W fun e w'=>∃ t v,e = .returned (.iface t v) /\ ∃ f',W.heap.size <= f' /\ U6 [f',l,q.2.2.ms,mc] W mc l m dm cr L J (L1 L q) (J1 J q) back depth a d li ni F.self gas last (.iface t v) w':=by
 have hn0:=(Vp ow).1
 obtain ⟨jv,hol,_⟩:=h.lj.ex
 have hlW:=Aa hol
 have hmsW:=(h.slot q hq).lt
 refine Alz (Ψ:=fun v w=>∃ f',W.heap.size <= f' /\ U6 [f',l,q.2.2.ms,mc] W mc l m dm cr L J (L1 L q) (J1 J q) back depth a d li ni F.self gas last v w) h hm (by omega) hf hq hself hp gas ⟨none,0,0⟩ (fun w f' hf' hge hm' hL hbw=>?_)
 have Mw : Md [f',l,q.2.2.ms,mc] W w mc l m dm cr L (J ++ ([] : List Value).reverse) lg back depth 0 [] a d li ni:=⟨by simpa using hL,hm',own_below ow hbw,gb.below hbw,.of_below hbw _ _⟩
 have hb' : BaseB.b0 <= f':=Nat.le_trans (Nat.le_trans BaseB.le hb1) hge
 refine Calls.mono (run_end (q:=q) (F:=⟨mc,(J.length : Int),(lg.n : Int),back,p.2.2.code,p.2.2.mark,F.self,F.caller,F.val,⟨none,0,0⟩,gas,0,0⟩) (sv:=⟨none,0,0⟩) (B':=[q.2.2.ms]) Mw rfl ⟨by simp,by simp,by simp,by simp⟩ (fun k hk=>?_) ⟨hb',hlo⟩ hcode hl hf' (Am7 w (Nat.le_trans hb1 hbw.size)) hq hself (by simp [hsl,Cy]) (by simp; omega) hg.1 hg.2 hdp.1 (by omega) hlW rfl (by show (lg.n : Int) = _; rw [hn0]) rfl rfl ⟨_,Adb hq h.ndb (by simp [hsl,D9,Pw]) (by simp),rfl⟩) ?_
 · obtain rfl : k = q.2.2.ms:=by simpa using hk
   obtain ⟨es,ec,hmo,_⟩:=h.slot q hq
   exact ⟨by simp,(h.lo q hq).2,Ci hmo hm (fun e=>by cases e),hmsW,q,hq,.inr rfl⟩
 · rintro e w' ⟨t,v,rfl,hc⟩
   refine ⟨t,v,rfl,hc.mono ?_⟩
   rintro e w'' ⟨t,v,rfl,hE⟩
   exact ⟨t,v,rfl,f',hge,by simpa using hE⟩
end
end
section
section
variable {B B' : List Nat} {W0 W w : World} {mc l m f : Nat} {dm : Dm} {cr : Int} {L Lw LL : AL} {J Jw JJ : List Value} {lg sv : SV} {back depth g : Int} {N : Nat} {xs : List Value} {a d li ni : Addr} {F : Frm} {last : UInt8}
theorem Md.base {h2 : BaseB.b0 <= W.heap.size} (h0 : Pres B [262,41,95] W0 W) (h : @Md ⟨BaseB.b0,W.heap.size,h2⟩ B' W w mc l m dm cr LL JJ lg back depth N xs a d li ni) (hB : ∀ k ∈ B',k ∈ B \/ W.heap.size <= k) : Md B W0 w mc l m dm cr LL JJ lg back depth N xs a d li ni /\ Pres B' [262,95] W w:=by
  obtain ⟨x1,x2,x3,x4,x5⟩:=h
  have hp : Pres B' [262,95] W w:=Pres.base (b0:=BaseB.b0) (b1:=W.heap.size) (b2:=BaseB.b1) (h1:=h2) (h2:=BaseB.le) rfl x5
  refine ⟨⟨LG.base (b0:=BaseB.b0) (b2:=BaseB.b1) (h1:=h2) (h2:=BaseB.le) x1,x2,x3,Gb.base (b0:=BaseB.b0) (b2:=BaseB.b1) (h1:=h2) (h2:=BaseB.le) x4,h0.trans (hp.mono (fun k hk hk2=>(hB k hk2).elim id (fun h=>by omega)) (fun t ht=>by simp at ht; rcases ht with rfl | rfl <;> simp))⟩,hp⟩
def Got (B : List Nat) (W0 : World) (mc l m : Nat) (dm : Dm) (cr : Int) (L : AL) (J : List Value) (Lw : AL) (Jw : List Value) (back depth : Int) (a d li ni : Addr) (self : Int) (r : Nat) (w : World) : Prop :=
  (r = 1 /\ ∃ lg',Md B W0 w mc l m dm cr Lw Jw lg' back depth 1 (Ej self 7) a d li ni) \/ (r = 0 /\ ∃ lg',Md B W0 w mc l m dm cr L J lg' back depth 0 [] a d li ni)
theorem Got.fs {c : Array Value} {self : Int} {r : Nat} {w' : World} (h : Got B W0 mc l m dm cr L J Lw Jw back depth a d li ni self r w) (hf : w.heap[f]? = ob c 225) (hp : Pres [f] [41] w w') (hfB : f ∈ B) (hb : BaseB.b0 <= f) : Got B W0 mc l m dm cr L J Lw Jw back depth a d li ni self r w' :=
  h.imp (fun ⟨e,lg',h1⟩=>⟨e,lg',h1.fs hf hp hfB hb⟩) (fun ⟨e,lg',h1⟩=>⟨e,lg',h1.fs hf hp hfB hb⟩)
theorem Ux {self gas : Int} {T : List Nat} {c0 : Nat} {v : Value} {t : TypeId} {h2 : BaseB.b0 <= W.heap.size} (h0 : Pres B [262,41,95] W0 W) (hE : @U6 ⟨BaseB.b0,W.heap.size,h2⟩ B' W mc l m dm cr L J Lw Jw back depth a d li ni self gas last (.iface t v) w) (hB : ∀ k ∈ B',k ∈ B \/ W.heap.size <= k) (hfB : f ∈ B /\ f ∉ B' /\ BaseB.b0 <= f) (hBt : ∀ k ∈ B',∀ c,W.heap[k]? ≠ ob c 41) (hf : W.heap[f]? = ob (frC F sv) 225) (hs : Stk W sv (T ++ [0,c0])) (hT : T.length < 100) (hg : 0 <= F.gas /\ F.gas < 1000000 /\ gas < 1000000 /\ 0 <= gas) :
    Calls TryQ.prog 342 #[pq f 0,.iface t v] w fun e w'=>e = .returned (.tuple #[]) /\ ∃ sv' r left,w'.heap[f]? = ob (frC { F with gas:=F.gas + left } sv') 225 /\ Stk w' sv' (T ++ [r]) /\ 0 <= left /\ left <= gas /\ (r = 1 ↔ 20390 <= gas /\ last = 0) /\ Got B W0 mc l m dm cr L J Lw Jw back depth a d li ni self r w':=by
 rcases hE with ⟨e1,e2,e3,lg',M⟩ | ⟨e1,gb,fb,e,he,e3,e4,e5,lg',M⟩
 · cases e3
   obtain ⟨M1,hp⟩:=M.base h0 hB
   have hfw : w.heap[f]? = _:=hp.obj hf (by show (225 : Nat) ∉ [262,95]; decide) hfB.2.1
   have hsw : Stk w sv (T ++ [0,c0]):=hs.kp hp (by decide) hBt
   refine (Sz hfw hsw (by omega) ⟨hg.1,by omega,by omega⟩).mono ?_
   rintro e w' ⟨sv',rfl,h3,h4,h5⟩
   exact ⟨rfl,sv',1,_,h3,h4,by omega,by omega,⟨fun _=>⟨e1,e2⟩,fun _=>rfl⟩,.inl ⟨rfl,lg',M1.fs hfw h5 hfB.1 hfB.2.2⟩⟩
 · cases e3
   obtain ⟨M1,hp⟩:=M.base h0 hB
   have hfw : w.heap[f]? = _:=hp.obj hf (by show (225 : Nat) ∉ [262,95]; decide) hfB.2.1
   have hsw : Stk w sv (T ++ [0,c0]):=hs.kp hp (by decide) hBt
   have hlow:=M1.gb.low
   have hl:=M1.gb.lo
   have hff : fb ≠ f:=fun e6=>by
    subst e6
    rw [Ad hfw 2] at e4
    cases e4
   refine (Mk (g:=0) (fun u hu=>?_) hfw hsw (by omega) ⟨hg.1,by omega,by omega⟩).mono ?_
   · have gu:=M1.gb.pres hu (fun k hk=>by
      obtain rfl : k = f:=by simpa using hk
      exact hfB.2.2)
     obtain ⟨ca,ta,oa⟩:=gu.oa
     obtain ⟨cd,td,od⟩:=gu.od
     obtain ⟨cl,tl,ol⟩:=gu.ol
     obtain ⟨ci,ti,oi⟩:=gu.oi
     have hfb : u.cell? ⟨fb,2,none⟩ = some (.iface 407 (.pointer (some e))):=by
      rw [<- e4]
      refine cellOf ?_ 2
      rcases hu.block fb e5 (by simpa using hff) with h6 | ⟨_,_,_,h6,_⟩
      · exact h6
      · cases h6
     have hsz:=Nat.lt_of_lt_of_le e5 hu.size
     have h3 : 3 < u.heap.size:=by have:=gu.low; omega
     rcases he with rfl | rfl
     · exact Ki hfb hsz gu.dp gu.lt h3 oa od ol gu.ne.1 gu.ne.2.1
     · exact Ki hfb hsz gu.dp gu.lt h3 oi od ol gu.ne.2.2.1 gu.ne.2.2.2.1
   · rintro e w' ⟨sv',rfl,h3,h4,h5⟩
     refine ⟨rfl,sv',0,0,h3,h4,by omega,by omega,⟨fun e6=>absurd e6 (by decide),fun e6=>?_⟩,.inr ⟨rfl,lg',M1.fs hfw h5 hfB.1 hfB.2.2⟩⟩
     rcases e1 with e1 | e1
     · omega
     · rw [e1] at e6; exact absurd e6.2 (by decide)
end
end
section
section
variable {B : List Nat} {W0 W : World} {mc l m f n p : Nat} {dm : Dm} {cr : Int} {L : AL} {J : List Value} {lg sv : SV} {back depth g : Int} {a d li ni : Addr} {F : Frm} {last : UInt8} {Φ : Value -> World -> Prop}
def Psi (B : List Nat) (W0 : World) (mc l m : Nat) (dm : Dm) (cr : Int) (L : AL) (J : List Value) (back depth : Int) (a d li ni : Addr) (f : Nat) (F1 : Frm) (gas : Int) (last : UInt8) (q pp : Int × Nat × Ac) (v y z : Nat) (sv' : SV) (tt : TypeId) (vv : Value) (w : World) : Prop :=
  ∃ w2 lg',Md B W0 w2 mc l m dm cr L J lg' back depth 0 [] a d li ni /\ w2.heap[f]? = ob (frC F1 sv') 225 /\ Stk w2 sv' ([] ++ [0,0]) /\ w2.heap.size <= w.heap.size /\ w.heap[f]? = ob (frC F1 sv') 225 /\
  ((v <= q.2.2.bal /\ ∃ f',w2.heap.size <= f' /\ ∃ h2,@U6 ⟨BaseB.b0,w2.heap.size,h2⟩ [f',l,q.2.1,pp.2.1,pp.2.2.ms,mc] w2 mc l m dm cr L J (L1 (Lb L q pp y z) (pb pp z)) (J1 (J ++ (Rs2 q pp).reverse) (pb pp z)) back depth a d li ni pp.1 gas last (.iface tt vv) w) \/
   (q.2.2.bal < v /\ tt = 217 /\ vv = .agg #[.int .i64 gas,.iface 407 (.pointer (some li))] /\ Below w2.heap.size w2 w))
theorem Akr {q pp : Int × Nat × Ac} {v gc y z : Nat} {X gas : Int} (hM : Md B W0 W mc l m dm cr L J lg back depth 0 [] a d li ni) (hmc : F.m = mc) (hB : f ∈ B /\ l ∈ B /\ q.2.1 ∈ B /\ pp.2.1 ∈ B /\ pp.2.2.ms ∈ B /\ mc ∈ B) (hlo : BaseB.b0 <= f /\ BaseB.b0 <= mc) (hf : W.heap[f]? = ob (frC (fr F g p) sv) 225) (hs : Stk W sv [0,0,0,0,v,3,gc]) (hp : p < 900) (hb : F.text.data[p]? = some 61) (hg : 100000 <= g) (hg' : g < 190000) (hv : v < 100) (hgc : gc < 60000) (hX : (v = 0 /\ X = 0) \/ (v ≠ 0 /\ X = 9000)) (hgas : (v = 0 /\ gas = (gc : Int)) \/ (v ≠ 0 /\ gas = (gc : Int) + 2300)) (hq : q ∈ L) (hself : q.1 = F.self) (hpp : pp ∈ L) (hp3 : pp.1 = ((3 : Nat) : Int)) (hne : q.2.1 ≠ pp.2.1) (hy : (q.2.2.bal + M - v) % M = y) (hz : (pp.2.2.bal + v) % M = z) (hcode : pp.2.2.code.data = cdC last) (hl : last = 0 \/ last = 255) (hsl : pp.2.2.sl = []) (hJ : J.length < 900) (hdp : 0 <= depth /\ depth < 60)
    (hok : ∀ w' sv' g' r,w'.heap[f]? = ob (frC (fr F g' ((p + 1 : Nat) : Int)) sv') 225 -> Stk w' sv' [r] -> 20500 <= g' -> g' < 200000 -> (r = 1 ↔ v <= q.2.2.bal /\ 20390 <= gas /\ last = 0) -> Got B W0 mc l m dm cr L J (L1 (Lb L q pp y z) (pb pp z)) (J1 (J ++ (Rs2 q pp).reverse) (pb pp z)) back depth a d li ni pp.1 r w' -> Rn f Φ n w') : Rn f Φ (n + 1) W:=by
 subst hmc
 have hvM : v < M:=Nat.lt_of_lt_of_le hv (by decide)
 have hX0 : 0 <= X /\ X <= 9000:=by rcases hX with ⟨_,h⟩ | ⟨_,h⟩ <;> omega
 have hG0 : 0 <= gas /\ gas < 100000:=by rcases hgas with ⟨_,h⟩ | ⟨_,h⟩ <;> omega
 obtain ⟨G,hG⟩ : ∃ G : Nat,g = (G : Int):=⟨g.toNat,by omega⟩
 have o1 : 1 < W.heap.size:=by have:=hM.gb.lo; have:=hM.gb.low; omega
 have hne1 : F.m ≠ f:=Bc hM.mc hf (by decide)
 have hBB : ∀ (w2 : World) (f' : Nat),w2.heap.size <= f' -> ∀ k ∈ [f',l,q.2.1,pp.2.1,pp.2.2.ms,F.m],k ∈ B \/ w2.heap.size <= k:=fun w2 f' hf' k hk=>by
  simp only [List.mem_cons,List.not_mem_nil,or_false] at hk
  rcases hk with rfl | rfl | rfl | rfl | rfl | rfl
  · exact .inr hf'
  · exact .inl hB.2.1
  · exact .inl hB.2.2.1
  · exact .inl hB.2.2.2.1
  · exact .inl hB.2.2.2.2.1
  · exact .inl hB.2.2.2.2.2
 have hfn : ∀ {w2 : World} {lg2 : SV} {c : Array Value} {f' : Nat},Md B W0 w2 F.m l m dm cr L J lg2 back depth 0 [] a d li ni -> w2.heap[f]? = ob c 225 -> w2.heap.size <= f' -> f ∉ [f',l,q.2.1,pp.2.1,pp.2.2.ms,F.m]:=fun {w2 lg2 c f'} M2 hf2 hf' hk=>by
  have hfl:=Aa hf2
  obtain ⟨jv,hol,_⟩:=M2.ld.lj.ex
  obtain ⟨es,ec,hmo,_⟩:=M2.ld.slot pp hpp
  simp only [List.mem_cons,List.not_mem_nil,or_false] at hk
  rcases hk with e | e | e | e | e | e
  · omega
  · exact Bc hf2 hol (by decide) e
  · exact Bc hf2 (M2.ld.acc q hq) (by decide) e
  · exact Bc hf2 (M2.ld.acc pp hpp) (by decide) e
  · exact Ci hf2 hmo (fun e=>by cases e) e
  · exact Bc hf2 M2.mc (by decide) e
 refine stx (Q:=fun F' sv' w'=>∃ r g',F' = { fr F g' p with next:=(p : Int) + 1 } /\ Stk w' sv' [r] /\ 20500 <= g' /\ g' < 200000 /\ (r = 1 ↔ v <= q.2.2.bal /\ 20390 <= gas /\ last = 0) /\ Got B W0 F.m l m dm cr L J (L1 (Lb L q pp y z) (pb pp z)) (J1 (J ++ (Rs2 q pp).reverse) (pb pp z)) back depth a d li ni pp.1 r w') hf hs 61 7 1 40 ((gc : Int) + X) 1 p 61 rfl (by omega) hb rfl Ah3 (fun w hw=>Aar (T:=[]) ((hw.block _ (Aa hf)).trans hf) (hs.below hw)) (fun w hw=>Ajr (T:=[0,0,0,0]) (hM.ld.below hw) (F:=fr F g p) ((hw.block _ (Aa hf)).trans hf) ((hw.block _ (Aa hM.mc)).trans hM.mc) (hs.below hw) hvM (by decide) hpp hp3 hG (by omega) (by omega) hX) Afq (by simp) (by decide) (by simp) (by decide) (by decide) (by omega) (by omega) (by decide) (by decide) (by show 0 <= g; omega) (by show g < _; omega) hM.gb.ng o1 (fun hc w hw hpw=>?_) (fun hc=>absurd (show g < 40 + ((gc : Int) + X) from hc) (by omega)) (fun hc w1 w' F' sv' hQ hf1 hf2 hp2=>?_)
 · have hsw:=hs.kpf hf hpw (by simp)
   have Mw:=hM.fs hf (hpw.mono (fun _ _ h=>h) (fun t h=>by cases h)) hB.1 hlo.1
   refine (Art (R:=fun w'=>∃ F' sv',w'.heap[f]? = ob (frC F' sv') 225 /\ ∃ r g',F' = { fr F g' p with next:=(p : Int) + 1 } /\ Stk w' sv' [r] /\ 20500 <= g' /\ g' < 200000 /\ (r = 1 ↔ v <= q.2.2.bal /\ 20390 <= gas /\ last = 0) /\ Got B W0 F.m l m dm cr L J (L1 (Lb L q pp y z) (pb pp z)) (J1 (J ++ (Rs2 q pp).reverse) (pb pp z)) back depth a d li ni pp.1 r w') (call332 (T:=[]) (c:=0) (a:=0) (gas:=gas) (F:={ fr F g p with gas:=g - (40 + ((gc : Int) + X)),next:=(p : Int) + 1 }) (Ψ:=Psi B W0 F.m l m dm cr L J back depth a d li ni f { fr F g p with gas:=g - (40 + ((gc : Int) + X)),next:=(p : Int) + 1 } gas last q pp v y z) hw hsw hvM (by decide) (by omega) hgas (fun w2 sv2 hf2 hs2 hp2=>?_) (fun sv2 tt vv w3 hΨ=>?_) (fun sv2 tt vv w3 hΨ=>?_) (fun w3 hΩ=>?_))).mono ?_
   · have M2:=Mw.fs hw (hp2.mono (fun _ _ h=>h) (fun t h=>by cases h)) hB.1 hlo.1
     have h2 : BaseB.b0 <= w2.heap.size:=M2.gb.low
     have e1 : Eb q.1 pp.1 v gas ⟨none,0,0⟩ = Eb F.self ((3 : Nat) : Int) v gas ⟨none,0,0⟩:=by rw [hself,hp3]
     by_cases hvb : v <= q.2.2.bal
     · have hc:=@Zv ⟨BaseB.b0,w2.heap.size,h2⟩ w2 F.m l m dm cr L J lg back depth gas a d li ni last (LG.base (b0:=BaseB.b0) (b1:=BaseB.b1) (h1:=BaseB.le) (h2:=h2) M2.ld) M2.mc M2.ow (Gb.base (b0:=BaseB.b0) (b1:=BaseB.b1) (h1:=BaseB.le) (h2:=h2) M2.gb) (Nat.le_refl _) hdp q pp hq hpp hne v hvM hvb y z hy hz ⟨hG0.1,by omega⟩ hcode hl hsl hJ hlo.2
       rw [e1] at hc
       refine Calls.mono hc ?_
       rintro e w3 ⟨tt,vv,rfl,f',hf',hE⟩
       have hP : Pres [f',l,q.2.1,pp.2.1,pp.2.2.ms,F.m] [262,95] w2 w3:=by
        rcases hE with ⟨_,_,_,lg',M⟩ | ⟨_,_,_,_,_,_,_,_,lg',M⟩ <;> exact (M.base M2.pr (hBB w2 f' hf')).2
       exact ⟨tt,vv,rfl,w2,lg,M2,hf2,hs2,hP.size,hP.obj hf2 (by show (225 : Nat) ∉ [262,95]; decide) (hfn M2 hf2 hf'),.inl ⟨hvb,f',hf',h2,hE⟩⟩
     · have hc:=Agd M2.ld M2.mc (by omega) hq ((3 : Nat) : Int) v hvM (by omega) gas ⟨none,0,0⟩ (by have:=M2.gb.lo; omega) M2.gb.lt
       rw [hself] at hc
       refine Calls.mono hc ?_
       rintro e w3 ⟨rfl,hbl⟩
       exact ⟨_,_,rfl,w2,lg,M2,hf2,hs2,hbl.size,(hbl.block _ (Aa hf2)).trans hf2,.inr ⟨by omega,rfl,rfl,hbl⟩⟩
   · obtain ⟨w2,_,_,_,_,_,hf3,_⟩:=hΨ
     exact ⟨(Ad hf3 0).trans rfl,(Ad hf3 6).trans rfl⟩
   · obtain ⟨w2,lg2,M2,hf2,hs2,hsz,hf3,⟨hvb,f',hf',h2,hE⟩ | ⟨hvb,rfl,rfl,hbl⟩⟩:=hΨ
     · refine (Ux (T:=[]) (c0:=0) M2.pr hE (hBB w2 f' hf') ⟨hB.1,hfn M2 hf2 hf',hlo.1⟩ (fun k hk c hc=>?_) hf2 hs2 (by simp) ⟨by show 0 <= g - (40 + ((gc : Int) + X)); omega,by show g - (40 + ((gc : Int) + X)) < _; omega,by omega,by omega⟩).mono ?_
       · obtain ⟨jv,hol,_⟩:=M2.ld.lj.ex
         simp only [List.mem_cons,List.not_mem_nil,or_false] at hk
         rcases hk with rfl | rfl | rfl | rfl | rfl | rfl
         · exact absurd (Aa hc) (by omega)
         · rw [hol] at hc; cases hc
         · rw [M2.ld.acc q hq] at hc; cases hc
         · rw [M2.ld.acc pp hpp] at hc; cases hc
         · obtain ⟨es,ec,hmo,_⟩:=M2.ld.slot pp hpp
           rw [hmo] at hc; cases hc
         · rw [M2.mc] at hc; cases hc
       · rintro e w4 ⟨rfl,sv',r,left,h3,h4,h5,h6,h7,h8⟩
         exact ⟨rfl,_,sv',h3,r,g - (40 + ((gc : Int) + X)) + left,rfl,h4,by omega,by omega,by rw [h7]; exact ⟨fun h=>⟨hvb,h⟩,fun h=>h.2⟩,h8⟩
     · have hs3:=hs2.below hbl
       have M3:=M2.below hbl
       refine (Mk (T:=[]) (a:=0) (g:=gas) (fun u hu=>?_) hf3 hs3 (by simp) ⟨by show 0 <= g - (40 + ((gc : Int) + X)); omega,hG0.1,by show g - (40 + ((gc : Int) + X)) + gas < _; omega⟩).mono ?_
       · have gu:=M3.gb.pres hu (fun k hk=>by
          obtain rfl : k = f:=by simpa using hk
          exact hlo.1)
         obtain ⟨cd,td,od⟩:=gu.od
         obtain ⟨cl,tl,ol⟩:=gu.ol
         exact R3 gu.dp gu.lt (by have:=gu.lo; have:=gu.low; omega) od ol gu.ne.2.2.2.2
       · rintro e w4 ⟨sv',rfl,h3,h4,h5⟩
         exact ⟨rfl,_,sv',h3,0,g - (40 + ((gc : Int) + X)) + gas,rfl,h4,by omega,by omega,⟨fun h=>absurd h (by decide),fun h=>absurd h.1 (by omega)⟩,.inr ⟨rfl,lg2,M3.fs hf3 h5 hB.1 hlo.1⟩⟩
   · obtain ⟨F',sv',hf3,r,g',rfl,_⟩:=hΩ
     exact ⟨(Ad hf3 0).trans rfl,(Ad hf3 6).trans rfl⟩
   · rintro e w' ⟨rfl,h1⟩
     exact ⟨rfl,h1⟩
 · obtain ⟨r,g',rfl,hs1,hb1,hb2,hr,hG1⟩:=hQ
   exact hok w' sv' g' r hf2 (hs1.kpf hf1 hp2 (by simp)) hb1 hb2 hr (hG1.fs hf1 (hp2.mono (fun _ _ h=>h) (fun t h=>by cases h)) hB.1 hlo.1)
end
end
section
section
variable {B : List Nat} {W0 W : World} {mc l m f n p : Nat} {dm : Dm} {cr : Int} {L : AL} {J : List Value} {lg sv : SV} {back depth g : Int} {a d li ni : Addr} {F : Frm} {last : UInt8} {Φ : Value -> World -> Prop}
def PsiL (B : List Nat) (W0 : World) (mc l m : Nat) (dm : Dm) (cr : Int) (L : AL) (J : List Value) (back depth : Int) (a d li ni : Addr) (f : Nat) (F1 : Frm) (gas : Int) (last : UInt8) (q : Int × Nat × Ac) (sv' : SV) (tt : TypeId) (vv : Value) (w : World) : Prop :=
  ∃ w2 lg',Md B W0 w2 mc l m dm cr L J lg' back depth 0 [] a d li ni /\ w2.heap[f]? = ob (frC F1 sv') 225 /\ Stk w2 sv' ([] ++ [0,0]) /\ w.heap[f]? = ob (frC F1 sv') 225 /\
  ∃ f',w2.heap.size <= f' /\ ∃ h2,@U6 ⟨BaseB.b0,w2.heap.size,h2⟩ [f',l,q.2.2.ms,mc] w2 mc l m dm cr L J (L1 L q) (J1 J q) back depth a d li ni F1.self gas last (.iface tt vv) w
theorem Akq {q pp : Int × Nat × Ac} {gc : Nat} (hM : Md B W0 W mc l m dm cr L J lg back depth 0 [] a d li ni) (hmc : F.m = mc) (hB : f ∈ B /\ l ∈ B /\ q.2.2.ms ∈ B /\ mc ∈ B) (hlo : BaseB.b0 <= f /\ BaseB.b0 <= mc) (hf : W.heap[f]? = ob (frC (fr F g p) sv) 225) (hs : Stk W sv [0,0,0,0,3,gc]) (hp : p < 900) (hb : F.text.data[p]? = some 62) (hg : 100000 <= g) (hg' : g < 190000) (hgc : gc < 60000) (hq : q ∈ L) (hself : q.1 = F.self) (hpp : pp ∈ L) (hp3 : pp.1 = ((3 : Nat) : Int)) (hcode : pp.2.2.code.data = cdC last) (hl : last = 0 \/ last = 255) (hsl : q.2.2.sl = []) (hJ : J.length < 900) (hdp : 0 <= depth /\ depth < 60)
    (hok : ∀ w' sv' g' r,w'.heap[f]? = ob (frC (fr F g' ((p + 1 : Nat) : Int)) sv') 225 -> Stk w' sv' [r] -> 20500 <= g' -> g' < 200000 -> (r = 1 ↔ 20390 <= (gc : Int) /\ last = 0) -> Got B W0 mc l m dm cr L J (L1 L q) (J1 J q) back depth a d li ni F.self r w' -> Rn f Φ n w') : Rn f Φ (n + 1) W:=by
 subst hmc
 obtain ⟨G,hG⟩ : ∃ G : Nat,g = (G : Int):=⟨g.toNat,by omega⟩
 have o1 : 1 < W.heap.size:=by have:=hM.gb.lo; have:=hM.gb.low; omega
 have hBB : ∀ (w2 : World) (f' : Nat),w2.heap.size <= f' -> ∀ k ∈ [f',l,q.2.2.ms,F.m],k ∈ B \/ w2.heap.size <= k:=fun w2 f' hf' k hk=>by
  simp only [List.mem_cons,List.not_mem_nil,or_false] at hk
  rcases hk with rfl | rfl | rfl | rfl
  · exact .inr hf'
  · exact .inl hB.2.1
  · exact .inl hB.2.2.1
  · exact .inl hB.2.2.2
 have hfn : ∀ {w2 : World} {lg2 : SV} {c : Array Value} {f' : Nat},Md B W0 w2 F.m l m dm cr L J lg2 back depth 0 [] a d li ni -> w2.heap[f]? = ob c 225 -> w2.heap.size <= f' -> f ∉ [f',l,q.2.2.ms,F.m]:=fun {w2 lg2 c f'} M2 hf2 hf' hk=>by
  have hfl:=Aa hf2
  obtain ⟨jv,hol,_⟩:=M2.ld.lj.ex
  obtain ⟨es,ec,hmo,_⟩:=M2.ld.slot q hq
  simp only [List.mem_cons,List.not_mem_nil,or_false] at hk
  rcases hk with e | e | e | e
  · omega
  · exact Bc hf2 hol (by decide) e
  · exact Ci hf2 hmo (fun e=>by cases e) e
  · exact Bc hf2 M2.mc (by decide) e
 refine stx (Q:=fun F' sv' w'=>∃ r g',F' = { fr F g' p with next:=(p : Int) + 1 } /\ Stk w' sv' [r] /\ 20500 <= g' /\ g' < 200000 /\ (r = 1 ↔ 20390 <= (gc : Int) /\ last = 0) /\ Got B W0 F.m l m dm cr L J (L1 L q) (J1 J q) back depth a d li ni F.self r w') hf hs 62 6 1 40 (gc : Int) 1 p 62 rfl (by omega) hb rfl Ah2 (fun w hw=>Aaq (T:=[]) ((hw.block _ (Aa hf)).trans hf) (hs.below hw)) (fun w hw=>Ajq (T:=[0,0,0,0,3]) (F:=fr F g p) ((hw.block _ (Aa hf)).trans hf) (hs.below hw) hG (by omega) (by omega)) Afp (by simp) (by decide) (by simp) (by decide) (by decide) (by omega) (by omega) (by decide) (by decide) (by show 0 <= g; omega) (by show g < _; omega) hM.gb.ng o1 (fun hc w hw hpw=>?_) (fun hc=>absurd (show g < 40 + (gc : Int) from hc) (by omega)) (fun hc w1 w' F' sv' hQ hf1 hf2 hp2=>?_)
 · have hsw:=hs.kpf hf hpw (by simp)
   have Mw:=hM.fs hf (hpw.mono (fun _ _ h=>h) (fun t h=>by cases h)) hB.1 hlo.1
   refine (Ars (R:=fun w'=>∃ F' sv',w'.heap[f]? = ob (frC F' sv') 225 /\ ∃ r g',F' = { fr F g' p with next:=(p : Int) + 1 } /\ Stk w' sv' [r] /\ 20500 <= g' /\ g' < 200000 /\ (r = 1 ↔ 20390 <= (gc : Int) /\ last = 0) /\ Got B W0 F.m l m dm cr L J (L1 L q) (J1 J q) back depth a d li ni F.self r w') (Al0 (T:=[]) (c:=0) (a:=0) (F:={ fr F g p with gas:=g - (40 + (gc : Int)),next:=(p : Int) + 1 }) (Ψ:=PsiL B W0 F.m l m dm cr L J back depth a d li ni f { fr F g p with gas:=g - (40 + (gc : Int)),next:=(p : Int) + 1 } (gc : Int) last q) hw hsw (by decide) (by omega) (fun w2 sv2 hf2 hs2 hp2=>?_) (fun sv2 tt vv w3 hΨ=>?_) (fun sv2 tt vv w3 hΨ=>?_) (fun w3 hΩ=>?_))).mono ?_
   · have M2:=Mw.fs hw (hp2.mono (fun _ _ h=>h) (fun t h=>by cases h)) hB.1 hlo.1
     have h2 : BaseB.b0 <= w2.heap.size:=M2.gb.low
     have hc:=@Zm ⟨BaseB.b0,w2.heap.size,h2⟩ w2 F.m l m dm cr L J lg back depth (gc : Int) a d li ni last f { fr F g p with gas:=g - (40 + (gc : Int)),next:=(p : Int) + 1 } sv2 (LG.base (b0:=BaseB.b0) (b1:=BaseB.b1) (h1:=BaseB.le) (h2:=h2) M2.ld) M2.mc M2.ow (Gb.base (b0:=BaseB.b0) (b1:=BaseB.b1) (h1:=BaseB.le) (h2:=h2) M2.gb) (Nat.le_refl _) hdp hf2 q pp hq hself hpp ⟨by omega,by omega⟩ hcode hl hsl hJ hlo.2
     rw [hp3] at hc
     refine Calls.mono hc ?_
     rintro e w3 ⟨tt,vv,rfl,f',hf',hE⟩
     have hP : Pres [f',l,q.2.2.ms,F.m] [262,95] w2 w3:=by
      rcases hE with ⟨_,_,_,lg',M⟩ | ⟨_,_,_,_,_,_,_,_,lg',M⟩ <;> exact (M.base M2.pr (hBB w2 f' hf')).2
     exact ⟨tt,vv,rfl,w2,lg,M2,hf2,hs2,hP.obj hf2 (by show (225 : Nat) ∉ [262,95]; decide) (hfn M2 hf2 hf'),f',hf',h2,hE⟩
   · obtain ⟨w2,_,_,_,_,hf3,_⟩:=hΨ
     exact ⟨(Ad hf3 0).trans rfl,(Ad hf3 6).trans rfl⟩
   · obtain ⟨w2,lg2,M2,hf2,hs2,hf3,f',hf',h2,hE⟩:=hΨ
     refine (Ux (T:=[]) (c0:=0) M2.pr hE (hBB w2 f' hf') ⟨hB.1,hfn M2 hf2 hf',hlo.1⟩ (fun k hk c hc=>?_) hf2 hs2 (by simp) ⟨by show 0 <= g - (40 + (gc : Int)); omega,by show g - (40 + (gc : Int)) < _; omega,by omega,by omega⟩).mono ?_
     · obtain ⟨jv,hol,_⟩:=M2.ld.lj.ex
       simp only [List.mem_cons,List.not_mem_nil,or_false] at hk
       rcases hk with rfl | rfl | rfl | rfl
       · exact absurd (Aa hc) (by omega)
       · rw [hol] at hc; cases hc
       · obtain ⟨es,ec,hmo,_⟩:=M2.ld.slot q hq
         rw [hmo] at hc; cases hc
       · rw [M2.mc] at hc; cases hc
     · rintro e w4 ⟨rfl,sv',r,left,h3,h4,h5,h6,h7,h8⟩
       exact ⟨rfl,_,sv',h3,r,g - (40 + (gc : Int)) + left,rfl,h4,by omega,by omega,h7,h8⟩
   · obtain ⟨F',sv',hf3,r,g',rfl,_⟩:=hΩ
     exact ⟨(Ad hf3 0).trans rfl,(Ad hf3 6).trans rfl⟩
   · rintro e w' ⟨rfl,h1⟩
     exact ⟨rfl,h1⟩
 · obtain ⟨r,g',rfl,hs1,hb1,hb2,hr,hG1⟩:=hQ
   exact hok w' sv' g' r hf2 (hs1.kpf hf1 hp2 (by simp)) hb1 hb2 hr (hG1.fs hf1 (hp2.mono (fun _ _ h=>h) (fun t h=>by cases h)) hB.1 hlo.1)
end
end
section
section
variable {B : List Nat} {W0 W : World} {mc l m f p N : Nat} {dm : Dm} {cr : Int} {L LL : AL} {J JJ : List Value} {lg sv : SV} {back depth g : Int} {xs : List Value} {a d li ni : Addr} {F : Frm} {last : UInt8} {Φ : Value -> World -> Prop}
theorem Pn {qq : Int × Nat × Ac} {r : Nat} (M0 : Md B W0 W mc l m dm cr LL JJ lg back depth N xs a d li ni) (hmc : F.m = mc) (hB : f ∈ B /\ l ∈ B /\ qq.2.2.ms ∈ B) (hlo : BaseB.b0 <= f) (hp : p < 800) (f0 : W.heap[f]? = ob (frC (fr F g p) sv) 225) (s0 : Stk W sv [r]) (hr : r < 2) (hg : 20500 <= g) (hg' : g < 200000) (hqq : qq ∈ LL) (hself : qq.1 = F.self) (hk0 : Cy qq.2.2.sl 5 = 0) (hJ : JJ.length < 1000000)
    (ht : ∀ j,j < 10 -> F.text.data[p + j]? = (#[98,0,0,1,1,98,0,0,5,45] : Array UInt8)[j]?) (hsz : F.text.size = p + 10)
    (hΦ : ∀ gl w',0 <= gl -> gl < 200000 -> Md B W0 w' mc l m dm cr (Ce LL qq.2.1 { qq.2.2 with sl:=D9 5 (r + 1) qq.2.2.sl }) (JJ ++ [D7 qq.2.1 5 0]) lg back depth N xs a d li ni -> Φ (.iface 174 (.agg #[.int .i64 gl,.string ⟨#[]⟩])) w') : Rn f Φ 5 W:=by
 subst hmc
 have o1 : ∀ {u : World},Gb u a d li ni -> 1 < u.heap.size:=fun h=>by have:=h.lo; have:=h.low; omega
 have hM1 : r + 1 < M:=Nat.lt_of_lt_of_le (show r + 1 < 3 by omega) (by decide)
 refine Db (p:=p) f0 s0 (by omega) (by omega) (by omega) M0.gb.ng (o1 M0.gb) (by simp) 0 0 1 (ht 0 (by decide)) (ht 1 (by decide)) (ht 2 (by decide)) (ht 3 (by decide)) (N:=1) rfl (fun hc=>absurd hc (by omega)) (fun c1 w1 v1 f1 s1 p1=>?_)
 have M1:=M0.fs f0 p1 hB.1 hlo
 refine Anq (p:=p + 4) (S:=[]) (x:=1) (y:=r) f1 s1 (by omega) (by omega) (by omega) M1.gb.ng (o1 M1.gb) (by simp) (by decide) (by omega) (ht 4 (by decide)) (fun hc=>absurd hc (by omega)) (fun c2 w2 v2 f2 s2 p2=>?_)
 have M2:=M1.fs f1 p2 hB.1 hlo
 rw [show (1 + r) % M = r + 1 by rw [Nat.mod_eq_of_lt (by omega)]; omega] at s2
 refine Db (p:=p + 4 + 1) f2 s2 (by omega) (by omega) (by omega) M2.gb.ng (o1 M2.gb) (by simp) 0 0 5 (ht 5 (by decide)) (ht 6 (by decide)) (ht 7 (by decide)) (ht 8 (by decide)) (N:=5) rfl (fun hc=>absurd hc (by omega)) (fun c3 w3 v3 f3 s3 p3=>?_)
 have M3:=M2.fs f2 p3 hB.1 hlo
 refine Ag9 (p:=p + 4 + 1 + 4) (S:=[]) (k:=5) (v:=r + 1) M3.ld M3.mc f3 s3 (by omega) (by omega) (by omega) M3.gb.ng (o1 M3.gb) hqq hself (by decide) hM1 (by omega) hk0 hJ (by simp) (ht 9 (by decide)) (fun hc=>absurd hc (by omega)) (fun c4 w4 v4 f4 s4 L4 m4 p4=>?_)
 have hlq:=M3.ld.lo qq hqq
 have M4 : Md B W0 w4 F.m l m dm cr (Ce LL qq.2.1 { qq.2.2 with sl:=D9 5 (r + 1) qq.2.2.sl }) (JJ ++ [D7 qq.2.1 5 0]) lg back depth N xs a d li ni:=⟨L4,m4,Ta M3.ow p4 (by decide) (fun k hk c hc=>by
    obtain ⟨jv,hlo2,_⟩:=M3.ld.lj.ex
    obtain ⟨es,ec,hmo,_⟩:=M3.ld.slot qq hqq
    simp only [List.mem_cons,List.not_mem_nil,or_false] at hk
    rcases hk with rfl | rfl | rfl
    · rw [f3] at hc; cases hc
    · rw [hlo2] at hc; cases hc
    · rw [hmo] at hc; cases hc),M3.gb.pres p4 (fun k hk=>by
    have hll:=M3.ld.lj.lo
    simp only [List.mem_cons,List.not_mem_nil,or_false] at hk
    rcases hk with rfl | rfl | rfl
    · exact hlo
    · exact hll
    · exact hlq.2),M3.pr.trans (p4.mono (fun k _ hk=>by
    simp only [List.mem_cons,List.not_mem_nil,or_false] at hk
    rcases hk with rfl | rfl | rfl
    · exact hB.1
    · exact hB.2.1
    · exact hB.2.2) (fun t ht=>by simp at ht; simp [ht]))⟩
 refine Acx f4 (by rw [s4.n]; decide) ⟨by show (0 : Int) <= ((p + 4 + 1 + 4 + 1 : Nat) : Int); omega,by show ((p + 4 + 1 + 4 + 1 : Nat) : Int) < 1000; omega⟩ (Ul f4 (by show (F.text.size : Int) <= ((p + 4 + 1 + 4 + 1 : Nat) : Int); omega)) (by show 0 <= g - 3 - 3 - 3 - 20000; omega) (by show g - 3 - 3 - 3 - 20000 < _; omega) M4.gb.ng (o1 M4.gb) (fun w' hp'=>hΦ _ w' (by show 0 <= g - 3 - 3 - 3 - 20000; omega) (by show g - 3 - 3 - 3 - 20000 < _; omega) (M4.fs f4 (hp'.mono (fun _ _ h=>h) (fun t h=>by cases h)) hB.1 hlo))
end
end
end Go.Mark
