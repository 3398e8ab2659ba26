import Derived.Test.YtbephahokhnccaaGreatDoorXL21toL25
import Derived.Deep.Upon
import Derived.Test.YtbephahokhnccaaGreatDoorXM0toM3
set_option linter.unusedSectionVars false
set_option maxRecDepth 100000
set_option maxHeartbeats 4000000
namespace Go.Mark
open Go.RowKit Go.Proofs
variable [BaseB]
section
section
variable {B : List Nat} {W0 W : World} {mc l m f : Nat} {dm : Dm} {cr : Int} {L : AL} {J : List Value} {lg sv : SV} {back depth g : Int} {a d li ni : Addr} {F : Frm} {last : UInt8}
def cdM (vb gh gl : UInt8) : Array UInt8:=#[98,0,0,0,98,0,0,0,98,0,0,0,98,0,0,0,98,0,0,vb,98,0,0,3,98,0,gh,gl,61,98,0,0,1,1,98,0,0,5,45]
def cdL (gh gl : UInt8) : Array UInt8:=#[98,0,0,0,98,0,0,0,98,0,0,0,98,0,0,0,98,0,0,3,98,0,gh,gl,62,98,0,0,1,1,98,0,0,5,45]
def R7 (B : List Nat) (W0 : World) (mc l m : Nat) (dm : Dm) (cr : Int) (back depth : Int) (a d li ni : Addr) (wl : Prop) (self : Int) (Lw : AL) (Jw : List Value) (Lo : AL) (Jo : List Value) (v : Value) (w : World) : Prop :=
  ∃ gl,0 <= gl /\ gl < 200000 /\ v = .iface 174 (.agg #[.int .i64 gl,.string ⟨#[]⟩]) /\ ((wl /\ ∃ lg',Md B W0 w mc l m dm cr Lw Jw lg' back depth 1 (Ej self 7) a d li ni) \/ (¬ wl /\ ∃ lg',Md B W0 w mc l m dm cr Lo Jo lg' back depth 0 [] a d li ni))
def O7 (L : AL) (q : Int × Nat × Ac) (x : Nat) : AL:=Ce L q.2.1 { q.2.2 with sl:=D9 5 x q.2.2.sl }
theorem Aeu {q pp : Int × Nat × Ac} {v gc y z : Nat} {X gas : Int} {vb gh gl : UInt8} (M0 : Md B W0 W mc l m dm cr L J lg back depth 0 [] a d li ni) (hmc : F.m = mc) (hB : f ∈ B /\ l ∈ B /\ q.2.1 ∈ B /\ pp.2.1 ∈ B /\ pp.2.2.ms ∈ B /\ mc ∈ B) (hBq : q.2.2.ms ∈ B) (hlo : BaseB.b0 <= f /\ BaseB.b0 <= mc) (f0 : W.heap[f]? = ob (frC (fr F g ((0 : Nat) : Int)) sv) 225) (s0 : Stk W sv []) (ht : F.text.data = cdM vb gh gl) (hvb : vb.toNat = v) (hgb : gh.toNat * 256 + gl.toNat = gc) (hg : g = 179000) (hv : v < 100) (hgc : gc < 60000) (hX : (v = 0 /\ X = 0) \/ (v ≠ 0 /\ X = 9000)) (hgas : (v = 0 /\ gas = (gc : Int)) \/ (v ≠ 0 /\ gas = (gc : Int) + 2300)) (hq : q ∈ L) (hself : q.1 = F.self) (hpp : pp ∈ L) (hp3 : pp.1 = ((3 : Nat) : Int)) (hne : q.2.1 ≠ pp.2.1) (hy : (q.2.2.bal + M - v) % M = y) (hz : (pp.2.2.bal + v) % M = z) (hcode : pp.2.2.code.data = cdC last) (hl : last = 0 \/ last = 255) (hsl : pp.2.2.sl = []) (hqs : q.2.2.sl = []) (hJ : J.length < 900) (hdp : 0 <= depth /\ depth < 60) :
    Rn f (R7 B W0 mc l m dm cr back depth a d li ni (v <= q.2.2.bal /\ 20390 <= gas /\ last = 0) pp.1 (O7 (L1 (Lb L q pp y z) (pb pp z)) (pb q y) 2) (J1 (J ++ (Rs2 q pp).reverse) (pb pp z) ++ [D7 q.2.1 5 0]) (O7 L q 1) (J ++ [D7 q.2.1 5 0])) 13 W:=by
 have bt : ∀ (p : Nat) (x : UInt8),(cdM vb gh gl)[p]? = some x -> F.text.data[p]? = some x:=fun p x h=>by rw [ht]; exact h
 have o1 : ∀ {u : World},Gb u a d li ni -> 1 < u.heap.size:=fun h=>by have:=h.lo; have:=h.low; omega
 subst hg
 have htl : ∀ j,j < 10 -> F.text.data[29 + j]? = (#[98,0,0,1,1,98,0,0,5,45] : Array UInt8)[j]?:=fun j hj=>by
  rw [ht]
  have : j = 0 \/ j = 1 \/ j = 2 \/ j = 3 \/ j = 4 \/ j = 5 \/ j = 6 \/ j = 7 \/ j = 8 \/ j = 9:=by omega
  rcases this with rfl | rfl | rfl | rfl | rfl | rfl | rfl | rfl | rfl | rfl <;> rfl
 have hsz : F.text.size = 29 + 10:=by
  show F.text.data.size = _
  rw [ht]
  rfl
 refine Db (p:=0) f0 s0 (by decide) (by omega) (by omega) M0.gb.ng (o1 M0.gb) (by simp) 0 0 0 (bt _ _ rfl) (bt _ _ rfl) (bt _ _ rfl) (bt _ _ rfl) (N:=0) rfl (fun hc=>absurd hc (by omega)) (fun c1 w1 v1 f1 s1 p1=>?_)
 have M1:=M0.fs f0 p1 hB.1 hlo.1
 refine Db (p:=4) f1 s1 (by decide) (by omega) (by omega) M1.gb.ng (o1 M1.gb) (by simp) 0 0 0 (bt _ _ rfl) (bt _ _ rfl) (bt _ _ rfl) (bt _ _ rfl) (N:=0) rfl (fun hc=>absurd hc (by omega)) (fun c2 w2 v2 f2 s2 p2=>?_)
 have M2:=M1.fs f1 p2 hB.1 hlo.1
 refine Db (p:=8) f2 s2 (by decide) (by omega) (by omega) M2.gb.ng (o1 M2.gb) (by simp) 0 0 0 (bt _ _ rfl) (bt _ _ rfl) (bt _ _ rfl) (bt _ _ rfl) (N:=0) rfl (fun hc=>absurd hc (by omega)) (fun c3 w3 v3 f3 s3 p3=>?_)
 have M3:=M2.fs f2 p3 hB.1 hlo.1
 refine Db (p:=12) f3 s3 (by decide) (by omega) (by omega) M3.gb.ng (o1 M3.gb) (by simp) 0 0 0 (bt _ _ rfl) (bt _ _ rfl) (bt _ _ rfl) (bt _ _ rfl) (N:=0) rfl (fun hc=>absurd hc (by omega)) (fun c4 w4 v4 f4 s4 p4=>?_)
 have M4:=M3.fs f3 p4 hB.1 hlo.1
 refine Db (p:=16) f4 s4 (by decide) (by omega) (by omega) M4.gb.ng (o1 M4.gb) (by simp) 0 0 vb (bt _ _ rfl) (bt _ _ rfl) (bt _ _ rfl) (bt _ _ rfl) (N:=v) (by rw [hvb]; simp) (fun hc=>absurd hc (by omega)) (fun c5 w5 v5 f5 s5 p5=>?_)
 have M5:=M4.fs f4 p5 hB.1 hlo.1
 refine Db (p:=20) f5 s5 (by decide) (by omega) (by omega) M5.gb.ng (o1 M5.gb) (by simp) 0 0 3 (bt _ _ rfl) (bt _ _ rfl) (bt _ _ rfl) (bt _ _ rfl) (N:=3) rfl (fun hc=>absurd hc (by omega)) (fun c6 w6 v6 f6 s6 p6=>?_)
 have M6:=M5.fs f5 p6 hB.1 hlo.1
 refine Db (p:=24) f6 s6 (by decide) (by omega) (by omega) M6.gb.ng (o1 M6.gb) (by simp) 0 gh gl (bt _ _ rfl) (bt _ _ rfl) (bt _ _ rfl) (bt _ _ rfl) (N:=gc) (by rw [<- hgb]; simp) (fun hc=>absurd hc (by omega)) (fun c7 w7 v7 f7 s7 p7=>?_)
 have M7:=M6.fs f6 p7 hB.1 hlo.1
 refine Akr (p:=28) M7 hmc hB hlo f7 s7 (by decide) (bt _ _ rfl) (by omega) (by omega) hv hgc hX hgas hq hself hpp hp3 hne hy hz hcode hl hsl hJ hdp (fun w8 v8 g8 r f8 s8 b1 b2 hr hG=>?_)
 rcases hG with ⟨rfl,lg8,M8⟩ | ⟨rfl,lg8,M8⟩
 · have hqq : pb q y ∈ L1 (Lb L q pp y z) (pb pp z):=Ev (q:=pb q y) (Ev (q:=pb q y) (Fx hq _) hne _) hne _
   exact Pn (p:=29) (qq:=pb q y) M8 hmc ⟨hB.1,hB.2.1,hBq⟩ hlo.1 (by decide) f8 s8 (by decide) b1 b2 hqq hself (by simp [pb,hqs,Cy]) (by simp [J1,Rs2]; omega) htl hsz (fun gl w' h1 h2 h3=>⟨gl,h1,h2,rfl,.inl ⟨hr.1 rfl,lg8,h3⟩⟩)
 · exact Pn (p:=29) (qq:=q) M8 hmc ⟨hB.1,hB.2.1,hBq⟩ hlo.1 (by decide) f8 s8 (by decide) b1 b2 hq hself (by simp [hqs,Cy]) (by omega) htl hsz (fun gl w' h1 h2 h3=>⟨gl,h1,h2,rfl,.inr ⟨fun h=>absurd (hr.2 h) (by decide),lg8,h3⟩⟩)
theorem Aet {q pp : Int × Nat × Ac} {gc : Nat} {gh gl : UInt8} (M0 : Md B W0 W mc l m dm cr L J lg back depth 0 [] a d li ni) (hmc : F.m = mc) (hB : f ∈ B /\ l ∈ B /\ q.2.2.ms ∈ B /\ mc ∈ B) (hlo : BaseB.b0 <= f /\ BaseB.b0 <= mc) (f0 : W.heap[f]? = ob (frC (fr F g ((0 : Nat) : Int)) sv) 225) (s0 : Stk W sv []) (ht : F.text.data = cdL gh gl) (hgb : gh.toNat * 256 + gl.toNat = gc) (hg : g = 179000) (hgc : gc < 60000) (hq : q ∈ L) (hself : q.1 = F.self) (hpp : pp ∈ L) (hp3 : pp.1 = ((3 : Nat) : Int)) (hcode : pp.2.2.code.data = cdC last) (hl : last = 0 \/ last = 255) (hqs : q.2.2.sl = []) (hJ : J.length < 900) (hdp : 0 <= depth /\ depth < 60) :
    Rn f (R7 B W0 mc l m dm cr back depth a d li ni (20390 <= (gc : Int) /\ last = 0) F.self (O7 (L1 L q) (q.1,q.2.1,{ q.2.2 with sl:=D9 1 9 q.2.2.sl }) 2) (J1 J q ++ [D7 q.2.1 5 0]) (O7 L q 1) (J ++ [D7 q.2.1 5 0])) 12 W:=by
 have bt : ∀ (p : Nat) (x : UInt8),(cdL gh gl)[p]? = some x -> F.text.data[p]? = some x:=fun p x h=>by rw [ht]; exact h
 have o1 : ∀ {u : World},Gb u a d li ni -> 1 < u.heap.size:=fun h=>by have:=h.lo; have:=h.low; omega
 subst hg
 have htl : ∀ j,j < 10 -> F.text.data[25 + j]? = (#[98,0,0,1,1,98,0,0,5,45] : Array UInt8)[j]?:=fun j hj=>by
  rw [ht]
  have : j = 0 \/ j = 1 \/ j = 2 \/ j = 3 \/ j = 4 \/ j = 5 \/ j = 6 \/ j = 7 \/ j = 8 \/ j = 9:=by omega
  rcases this with rfl | rfl | rfl | rfl | rfl | rfl | rfl | rfl | rfl | rfl <;> rfl
 have hsz : F.text.size = 25 + 10:=by
  show F.text.data.size = _
  rw [ht]
  rfl
 refine Db (p:=0) f0 s0 (by decide) (by omega) (by omega) M0.gb.ng (o1 M0.gb) (by simp) 0 0 0 (bt _ _ rfl) (bt _ _ rfl) (bt _ _ rfl) (bt _ _ rfl) (N:=0) rfl (fun hc=>absurd hc (by omega)) (fun c1 w1 v1 f1 s1 p1=>?_)
 have M1:=M0.fs f0 p1 hB.1 hlo.1
 refine Db (p:=4) f1 s1 (by decide) (by omega) (by omega) M1.gb.ng (o1 M1.gb) (by simp) 0 0 0 (bt _ _ rfl) (bt _ _ rfl) (bt _ _ rfl) (bt _ _ rfl) (N:=0) rfl (fun hc=>absurd hc (by omega)) (fun c2 w2 v2 f2 s2 p2=>?_)
 have M2:=M1.fs f1 p2 hB.1 hlo.1
 refine Db (p:=8) f2 s2 (by decide) (by omega) (by omega) M2.gb.ng (o1 M2.gb) (by simp) 0 0 0 (bt _ _ rfl) (bt _ _ rfl) (bt _ _ rfl) (bt _ _ rfl) (N:=0) rfl (fun hc=>absurd hc (by omega)) (fun c3 w3 v3 f3 s3 p3=>?_)
 have M3:=M2.fs f2 p3 hB.1 hlo.1
 refine Db (p:=12) f3 s3 (by decide) (by omega) (by omega) M3.gb.ng (o1 M3.gb) (by simp) 0 0 0 (bt _ _ rfl) (bt _ _ rfl) (bt _ _ rfl) (bt _ _ rfl) (N:=0) rfl (fun hc=>absurd hc (by omega)) (fun c4 w4 v4 f4 s4 p4=>?_)
 have M4:=M3.fs f3 p4 hB.1 hlo.1
 refine Db (p:=16) f4 s4 (by decide) (by omega) (by omega) M4.gb.ng (o1 M4.gb) (by simp) 0 0 3 (bt _ _ rfl) (bt _ _ rfl) (bt _ _ rfl) (bt _ _ rfl) (N:=3) rfl (fun hc=>absurd hc (by omega)) (fun c5 w5 v5 f5 s5 p5=>?_)
 have M5:=M4.fs f4 p5 hB.1 hlo.1
 refine Db (p:=20) f5 s5 (by decide) (by omega) (by omega) M5.gb.ng (o1 M5.gb) (by simp) 0 gh gl (bt _ _ rfl) (bt _ _ rfl) (bt _ _ rfl) (bt _ _ rfl) (N:=gc) (by rw [<- hgb]; simp) (fun hc=>absurd hc (by omega)) (fun c6 w6 v6 f6 s6 p6=>?_)
 have M6:=M5.fs f5 p6 hB.1 hlo.1
 refine Akq (p:=24) M6 hmc hB hlo f6 s6 (by decide) (bt _ _ rfl) (by omega) (by omega) hgc hq hself hpp hp3 hcode hl hqs hJ hdp (fun w8 v8 g8 r f8 s8 b1 b2 hr hG=>?_)
 rcases hG with ⟨rfl,lg8,M8⟩ | ⟨rfl,lg8,M8⟩
 · have hqq : (q.1,q.2.1,{ q.2.2 with sl:=D9 1 9 q.2.2.sl }) ∈ L1 L q:=Fx hq _
   exact Pn (p:=25) (qq:=(q.1,q.2.1,{ q.2.2 with sl:=D9 1 9 q.2.2.sl })) M8 hmc ⟨hB.1,hB.2.1,hB.2.2.1⟩ hlo.1 (by decide) f8 s8 (by decide) b1 b2 hqq hself (by simp [hqs,Cy,D9]) (by simp [J1]; omega) htl hsz (fun gl w' h1 h2 h3=>⟨gl,h1,h2,rfl,.inl ⟨hr.1 rfl,lg8,h3⟩⟩)
 · exact Pn (p:=25) (qq:=q) M8 hmc ⟨hB.1,hB.2.1,hB.2.2.1⟩ hlo.1 (by decide) f8 s8 (by decide) b1 b2 hq hself (by simp [hqs,Cy]) (by omega) htl hsz (fun gl w' h1 h2 h3=>⟨gl,h1,h2,rfl,.inr ⟨fun h=>absurd (hr.2 h) (by decide),lg8,h3⟩⟩)
end
end
section
section
variable {W : World} {mc l m n : Nat} {dm : Dm} {cr : Int} {L : AL} {J : List Value} {a d li ni : Addr}
theorem Aer (h : LG W l m dm cr L J) (hm : W.heap[mc]? = ob (Aj l ⟨none,0,0⟩ 0 0) 165) (gb : Gb W a d li ni) (hb1 : BaseB.b1 <= W.heap.size) (hlo : BaseB.b0 <= mc) {s q : Int × Nat × Ac} (hs : s ∈ L) (hq : q ∈ L) (hne : s.2.1 ≠ q.2.1) (gas : Int) (data : SV) (hJ : J.length < 800) {ex : List Nat} {wl : Prop} {self : Int} {Lw Lo : AL} {Jw Jo : List Value}
    (hmain : ∀ w f,w.heap[f]? = ob (frC (fr ⟨mc,(J.length : Int),((0 : Nat) : Int),0,q.2.2.code,q.2.2.mark,q.1,s.1,0,data,gas,0,0⟩ gas ((0 : Nat) : Int)) ⟨none,0,0⟩) 225 -> BaseB.b0 <= f -> Md (f :: l :: s.2.1 :: q.2.1 :: mc :: ex) W w mc l m dm cr L (J ++ [Hg s.2.1 s.2.2.bal] ++ [Hg q.2.1 q.2.2.bal]) ⟨none,0,0⟩ 0 (0 + 1) 0 [] a d li ni -> Stk w ⟨none,0,0⟩ [] -> Rn f (R7 (f :: l :: s.2.1 :: q.2.1 :: mc :: ex) W mc l m dm cr 0 (0 + 1) a d li ni wl self Lw Jw Lo Jo) n w) :
    Calls TryQ.prog 92 #[pq mc 0,.agg (Eb s.1 q.1 0 gas data)] W fun e w'=>∃ t v,e = .returned (.iface t v) /\ ∃ f,W.heap.size <= f /\ R7 (f :: l :: s.2.1 :: q.2.1 :: mc :: ex) W mc l m dm cr 0 0 a d li ni wl self Lw Jw Lo Jo (.iface t v) w':=by
 have hmW:=Aa hm
 obtain ⟨jv,hol,_⟩:=h.lj.ex
 have e1 : (s.2.2.bal + M - 0) % M = s.2.2.bal:=by rw [Nat.sub_zero,Nat.add_mod_right,Nat.mod_eq_of_lt (h.bal s hs)]
 have e2 : (q.2.2.bal + 0) % M = q.2.2.bal:=by rw [Nat.add_zero,Nat.mod_eq_of_lt (h.bal q hq)]
 have e3 : Ce L s.2.1 { s.2.2 with bal:=s.2.2.bal } = L:=Jq h.ndb hs
 have e4 : Ce L q.2.1 { q.2.2 with bal:=q.2.2.bal } = L:=Jq h.ndb hq
 refine call92 (Ψ:=fun v w=>∃ f,W.heap.size <= f /\ R7 (f :: l :: s.2.1 :: q.2.1 :: mc :: ex) W mc l m dm cr 0 0 a d li ni wl self Lw Jw Lo Jo v w) h hm (by decide) hs hq hne 0 (by decide) (Nat.zero_le _) gas data (by omega) (fun w f hf hge hm' hL hpr=>?_)
 rw [e1,e2,e3,e4] at hL
 have hBlo : ∀ k ∈ [l,s.2.1,q.2.1],BaseB.b0 <= k:=fun k hk=>by
  simp only [List.mem_cons,List.not_mem_nil,or_false] at hk
  rcases hk with rfl | rfl | rfl
  · exact h.lj.lo
  · exact (h.lo s hs).1
  · exact (h.lo q hq).1
 have ow : W.ownsRow BaseB.b0 95 6 (.slice (none : Option Addr) 0 0) 0 []:=⟨by simp,.inl ⟨rfl,rfl⟩⟩
 have Mw : Md (f :: l :: s.2.1 :: q.2.1 :: mc :: ex) W w mc l m dm cr L (J ++ [Hg s.2.1 s.2.2.bal] ++ [Hg q.2.1 q.2.2.bal]) ⟨none,0,0⟩ 0 0 0 [] a d li ni:=⟨hL,hm',⟨by simp,.inl ⟨rfl,rfl⟩⟩,gb.pres hpr hBlo,hpr.mono (fun k _ hk=>by simp only [List.mem_cons,List.not_mem_nil,or_false] at hk; rcases hk with rfl | rfl | rfl <;> simp) (fun t ht=>by simp at ht; simp [ht])⟩
 have hf' : BaseB.b0 <= f:=Nat.le_trans (Nat.le_trans BaseB.le hb1) hge
 have hfm : f ≠ mc:=Bc hf hm' (by decide)
 refine Calls.mono (Vr (Φ:=R7 (f :: l :: s.2.1 :: q.2.1 :: mc :: ex) W mc l m dm cr 0 (0 + 1) a d li ni wl self Lw Jw Lo Jo) (n:=n) Mw.mc (by decide) (by decide) (fun w1 hw1 hp1=>?_) (fun v w' hO=>?_)) ?_
 · exact hmain w1 f (hp1.obj hf (by show (225 : Nat) ∉ []; simp) (by simpa using hfm)) hf' (Mw.mcs hp1 hw1 (by simp) hlo Mw.ow) (Am7 w1 (Nat.le_trans hb1 (Nat.le_trans hpr.size hp1.size)))
 · obtain ⟨gl,_,_,_,⟨_,lg',M⟩ | ⟨_,lg',M⟩⟩:=hO <;> exact ⟨_,_,M.mc⟩
 · rintro e w' ⟨t,v,w2,lg2,back2,rfl,⟨gl,g1,g2,hv,hO⟩,hm2,hm3,hp3⟩
   cases hv
   refine ⟨_,_,rfl,(Hr mc _ w').mono ?_⟩
   rintro e w'' ⟨rfl,rfl⟩
   refine ⟨_,_,rfl,f,hge,gl,g1,g2,rfl,?_⟩
   rcases hO with ⟨hw,lg',M⟩ | ⟨hw,lg',M⟩
   · have hh:=Lj hm2 M.mc
     rw [hh.1,hh.2] at hm3
     exact .inl ⟨hw,lg',M.mcs hp3 hm3 (by simp) hlo M.ow⟩
   · have hh:=Lj hm2 M.mc
     rw [hh.1,hh.2] at hm3
     exact .inr ⟨hw,lg',M.mcs hp3 hm3 (by simp) hlo M.ow⟩
end
end
theorem Ut (a : Addr) (n c : Nat) (V : World) : (binOp BinOp.eql 32 (Value.slice (some a) n c) (Value.slice none 0 0)).run TryQ.prog V = .ok (.bool false) V:=by kernel_rfl
theorem Amm (a b : Addr) (c : Nat) (w : World) : (Builtin.append_ #[32,32] 32 #[.slice (some a) 0 0,.slice (some b) 0 c]).run TryQ.prog w = .ok (.slice (some a) 0 0) w:=by
 obtain ⟨i,z,hi,hz,hs,hbb,hzs⟩:=Aag
 exact run_append_nothing w 32 32 32 95 i ((Ab 32).trans Tryz.underlying32) hi (some a) 0 0 (Nat.le_refl _) _ ⟨.inl ⟨95,(Ab 32).trans Tryz.underlying32⟩,fun _=>by simp [Builtin.lenOf],by simp [Builtin.firstCells,loadCells,loadCellsFrom],by simp [Builtin.firstCells,loadCells,loadCellsFrom],by simp,by simp⟩
theorem Apq (a : Addr) (c : Nat) (W : World) : Calls TryQ.prog 141 #[.slice (some a) 0 c] W fun e w'=>∃ lv : SV,e = .returned (.slice lv.a lv.n lv.c) /\ Below W.heap.size W w' /\ LgAt W.heap.size lv 0 [] w':=by
 have hq:=Ut
 have ha:=Amm
 go_enter TryQ.func141,Tryz.ntmps141
 go_wp2
 simp [bodyPost,results,Tryz.results141,go_sem]
 exact ⟨⟨some ⟨W.heap.size,0,none⟩,0,0⟩,⟨rfl,rfl,rfl⟩,ba,rfl,fun h=>absurd h (by decide)⟩
theorem App {a : Addr} {c : Nat} {W : World} {xs : List Value} (hl : xs.length = 6) (hc : ∀ j u,xs[j]? = some u -> W.cell? (a.add j) = some u) (h1 : ∀ u ∈ xs,u.oneCell' = true) (ha : a.block < W.heap.size) :
  Calls TryQ.prog 141 #[.slice (some a) 1 c] W fun e w'=>∃ lv : SV,e = .returned (.slice lv.a lv.n lv.c) /\ Below W.heap.size W w' /\ LgAt W.heap.size lv 1 xs w':=by
 obtain ⟨i,z,hi,hz,hs,hbb,hzs⟩:=Aag
 have hq:=Ut
 have hbx : Below W.heap.size W (W.alloc (.cells #[] 95)):=ba
 have hown : (W.alloc (.cells #[] 95)).ownsRow W.heap.size 95 6 (.slice (some ⟨W.heap.size,0,none⟩) 0 0) 0 []:=⟨by simp,.inr ⟨W.heap.size,0,#[],rfl,Nat.le_refl _,Al W _,Nat.le_refl _,by simp,by simp,by simp⟩⟩
 have hcs : Shut _:=hc
 clear hc
 go_enter TryQ.func141,Tryz.ntmps141
 go_wp2_with (at_builtin; go_loud (refine Gw _ (by rfl) _ _ 32 (by rfl) W.heap.size 95 i z 6 56 ((Ab 32).trans Tryz.underlying32) hi hz hs hbb hzs (by omega) (.slice (some ⟨W.heap.size,0,none⟩) 0 0) 0 [] (by rfl) hown a 1 c xs (by rfl) (by rw [hl]) (fun j v hj=>?_) h1 (by omega) (by simp only [maxLen]; omega) (by omega) (by simp) (W.heap.size + 1) (by simp) ?_))
 ·rw [hbx.cell (by unfold Addr.add; split <;> simpa using ha)]
  exact hcs.out j v hj
 intro g cap W3 hown3 hgrow hat hlt3 hold
 go_wp2
 simp [bodyPost,results,Tryz.results141,go_sem]
 refine ⟨⟨some ⟨g,0,none⟩,1,cap⟩,⟨rfl,rfl,rfl⟩,?_,rfl,fun _=>?_⟩
 ·exact hbx.trans ⟨hgrow.os,hgrow.tape,hgrow.output,hgrow.size,fun k hk=>hgrow.block k (by simp; omega) (fun e=>by simp [Value.ownBlock] at e; omega)⟩
 ·rcases hown3.2 with ⟨h2,_⟩ | ⟨g',cap',cur,h2,h3,hg,hnc,_,_,ht⟩
  ·cases h2
  ·simp only [Value.slice.injEq,Option.some.injEq,Addr.mk.injEq,and_true,true_and] at h2
   obtain ⟨rfl,_,rfl⟩:=h2
   refine ⟨g,cap,cur,rfl,h3,hg,fun i v hv=>?_⟩
   rw [<- ht,List.getElem?_take] at hv
   split at hv
   ·rw [<- Array.getElem?_toList]; exact hv
   ·cases hv
theorem Aog {W : World} {mc l : Nat} {lg : SV} {back depth : Int} {R : Ending -> World -> Prop} (hm : W.heap[mc]? = ob (Aj l lg back depth) 165) (hc : Calls TryQ.prog 141 #[.slice lg.a lg.n lg.c] W R) (hR : ∀ e w,R e w -> ∃ v,e = .returned v) : Calls TryQ.prog 93 #[pq mc 0] W R:=by
 have c1:=bq hm 1 rfl
 go_enter TryQ.func93,Tryz.ntmps93
 go_wp2_with fail
 refine hc.mono ?_
 intro e w hr
 obtain ⟨v,rfl⟩:=hR e w hr
 go_wp2
 exact hr
theorem Ari {B : List Nat} {W0 W : World} {mc l m : Nat} {dm : Dm} {cr : Int} {L : AL} {J : List Value} {lg : SV} {back depth : Int} {N : Nat} {xs : List Value} {a d li ni : Addr} (h : Md B W0 W mc l m dm cr L J lg back depth N xs a d li ni) (hN : N = 0 /\ xs = [] \/ N = 1 /\ ∃ self t,xs = Ej self t) :
  Calls TryQ.prog 93 #[pq mc 0] W fun e w'=>∃ lv : SV,e = .returned (.slice lv.a lv.n lv.c) /\ Below W.heap.size W w' /\ LgAt W.heap.size lv N xs w':=by
 rcases h.ow.2 with ⟨h1,h2⟩ | ⟨g,cap,cur,h1,h2,hg,hnc,h4,hcs,ht⟩
 ·simp only [Value.slice.injEq] at h1
  obtain ⟨e1,e2,e3⟩:=h1
  have hmc:=h.mc
  obtain ⟨la,ln,lc⟩:=lg
  simp only at e1 e2 e3
  subst e1 e2 e3 h2
  obtain ⟨_,rfl⟩ : (0 : Nat) = 0 /\ xs = []:=by
   rcases hN with h3 | ⟨h3,_⟩
   ·exact h3
   ·cases h3
  exact (Ahe hmc).mono fun e w' ⟨h1,h3⟩=>⟨⟨none,0,0⟩,h1,by rw [h3]; exact Below.refl _ _,LgAt.none _ _⟩
 ·simp only [Value.slice.injEq] at h1
  obtain ⟨e1,e2,e3⟩:=h1
  refine Aog h.mc ?_ (fun e w ⟨lv,h1,_⟩=>⟨_,h1⟩)
  rw [e1,e2,e3]
  rcases hN with ⟨rfl,rfl⟩ | ⟨rfl,self,t,rfl⟩
  ·exact Apq _ _ _
  ·refine App (by rfl) (fun j u hj=>?_) (fun u hu=>?_) (Aa hg)
   ·rw [Addr.add_mid,Nat.zero_add,Ad hg j]
    rw [<- ht,List.getElem?_take] at hj
    split at hj
    ·rw [<- Array.getElem?_toList]; exact hj
    ·cases hj
   ·simp only [Ej,List.mem_cons,List.not_mem_nil,or_false] at hu
    rcases hu with rfl | rfl | rfl | rfl | rfl | rfl <;> rfl
def Ad0 (l m : Nat) (dm : Dm) (cr : Int) (p1 p2 p3 : Nat) (b2 b3 : Ac) (w : World) : Prop:=∃ a1 J,LG w l m dm cr [(1,p1,a1),(2,p2,b2),(3,p3,b3)] J /\ a1.sl = []
theorem Aci {p1 p2 p3 : Nat} {a1 a2 a3 a : Ac} (h : p1 ≠ p2 /\ p1 ≠ p3 /\ p2 ≠ p3) : Ce [(1,p1,a1),(2,p2,a2),(3,p3,a3)] p1 a = [(1,p1,a),(2,p2,a2),(3,p3,a3)]:=by
 simp [Ce,Ne.symm h.1,Ne.symm h.2.1]
theorem Ach {p1 p2 p3 : Nat} {a1 a2 a3 a : Ac} (h : p1 ≠ p2 /\ p1 ≠ p3 /\ p2 ≠ p3) : Ce [(1,p1,a1),(2,p2,a2),(3,p3,a3)] p2 a = [(1,p1,a1),(2,p2,a),(3,p3,a3)]:=by
 simp [Ce,h.1,Ne.symm h.2.2]
theorem Aqu {p1 p2 p3 : Nat} {a1 a2 a3 a : Ac} (h : p1 ≠ p2 /\ p1 ≠ p3 /\ p2 ≠ p3) : Ce [(1,p1,a1),(2,p2,a2),(3,p3,a3)] p3 a = [(1,p1,a1),(2,p2,a2),(3,p3,a)]:=by
 simp [Ce,h.2.1,h.2.2]
structure MidN (W : World) (l m : Nat) (dm : Dm) (cr : Int) (B : List Nat) (p1 p2 p3 : Nat) (a d li ni : Addr) (wl : Prop) (slf : Int) (w2 w3 o2 o3 : Ac) (mc : Nat) (t : TypeId) (v : Value) (r : Rs) (w : World) : Prop where
 lg : ∃ lg' a1 J,((wl /\ r.N = 1 /\ r.xs = Ej slf 7 /\ Md (mc :: B) W w mc l m dm cr [(1,p1,a1),(2,p2,w2),(3,p3,w3)] J lg' 0 0 r.N r.xs a d li ni) \/ (¬ wl /\ r.N = 0 /\ r.xs = [] /\ Md (mc :: B) W w mc l m dm cr [(1,p1,a1),(2,p2,o2),(3,p3,o3)] J lg' 0 0 r.N r.xs a d li ni)) /\ J.length < 500 /\ a1.sl = []
 mcn : W.heap.size <= mc
 how : t = 174 /\ v = .agg #[.int .i64 r.left,.string ⟨#[]⟩]
 r : r.good = true /\ r.s = ⟨#[]⟩ /\ r.back = 0 /\ 0 <= r.left /\ r.left < 200000 /\ r.k = 200000 - r.left
theorem MidN.below {W : World} {l m : Nat} {dm : Dm} {cr : Int} {B : List Nat} {p1 p2 p3 : Nat} {a d li ni : Addr} {wl : Prop} {self : Int} {w2 w3 o2 o3 : Ac} {mc : Nat} {t : TypeId} {v : Value} {r : Rs} {w w' : World} (h : MidN W l m dm cr B p1 p2 p3 a d li ni wl self w2 w3 o2 o3 mc t v r w) (hb : Below w.heap.size w w') : MidN W l m dm cr B p1 p2 p3 a d li ni wl self w2 w3 o2 o3 mc t v r w' :=
 ⟨let ⟨lg',a1,J,h1,h2⟩:=h.lg; ⟨lg',a1,J,h1.imp (fun ⟨x1,x2,x3,x4⟩=>⟨x1,x2,x3,x4.below hb⟩) (fun ⟨x1,x2,x3,x4⟩=>⟨x1,x2,x3,x4.below hb⟩),h2⟩,h.mcn,h.how,h.r⟩
theorem MidN.all {W : World} {l m : Nat} {dm : Dm} {cr : Int} {B : List Nat} {p1 p2 p3 : Nat} {a d li ni : Addr} {wl : Prop} {self : Int} {w2 w3 o2 o3 : Ac} {mc : Nat} {t : TypeId} {v : Value} {r : Rs} {w : World} (h : MidN W l m dm cr B p1 p2 p3 a d li ni wl self w2 w3 o2 o3 mc t v r w) : ∃ lg' a1 J b2 b3,(wl /\ r.N = 1 /\ r.xs = Ej self 7 /\ b2 = w2 /\ b3 = w3 \/ ¬ wl /\ r.N = 0 /\ r.xs = [] /\ b2 = o2 /\ b3 = o3) /\ Md (mc :: B) W w mc l m dm cr [(1,p1,a1),(2,p2,b2),(3,p3,b3)] J lg' 0 0 r.N r.xs a d li ni /\ J.length < 500 /\ a1.sl = []:=by
 obtain ⟨lg',a1,J,h1 | h1,h2⟩:=h.lg
 ·exact ⟨lg',a1,J,w2,w3,.inl ⟨h1.1,h1.2.1,h1.2.2.1,rfl,rfl⟩,h1.2.2.2,h2⟩
 ·exact ⟨lg',a1,J,o2,o3,.inr ⟨h1.1,h1.2.1,h1.2.2.1,rfl,rfl⟩,h1.2.2.2,h2⟩
def Z7 (l m : Nat) (dm : Dm) (cr : Int) (p1 p2 p3 : Nat) (wl : Prop) (self : Int) (w2 w3 o2 o3 : Ac) (r : Rs) (w : World) : Prop :=
 r.good = true /\ (wl /\ r.N = 1 /\ r.xs = Ej self 7 /\ Ad0 l m dm cr p1 p2 p3 w2 w3 w \/ ¬ wl /\ r.N = 0 /\ r.xs = [] /\ Ad0 l m dm cr p1 p2 p3 o2 o3 w)
theorem Arw {W : World} {l m dmb p1 p2 p3 n : Nat} {cr : Int} {a1 a2 a3 w2 w3 o2 o3 : Ac} {a d li ni : Addr} {wl : Prop} {self : Int} {ex : List Nat} (h : LG W l m ⟨dmb,[]⟩ cr [(1,p1,a1),(2,p2,a2),(3,p3,a3)] []) (gb : Gb W a d li ni) (hb1 : BaseB.b1 <= W.heap.size) (hne : p1 ≠ p2 /\ p1 ≠ p3 /\ p2 ≠ p3) (hbal : a1.bal = 1000000) (hno : a1.nonce = 0) (hsl : a1.sl = []) (hex : ∀ k ∈ ex,k < W.heap.size /\ BaseB.b0 <= k) {Jw Jo : List Value -> List Value} (hJw : ∀ J,J.length < 100 -> (Jw J).length < 400 /\ (Jo J).length < 400)
  (hmain : ∀ w V mc f b1 J data bl,J.length < 90 -> w.heap[f]? = ob (frC (fr ⟨mc,bl,((0 : Nat) : Int),0,a2.code,a2.mark,2,1,0,data,179000,0,0⟩ 179000 ((0 : Nat) : Int)) ⟨none,0,0⟩) 225 -> BaseB.b0 <= f -> BaseB.b0 <= mc -> Md (f :: l :: p1 :: p2 :: mc :: ex) V w mc l m ⟨dmb,[]⟩ cr [(1,p1,b1),(2,p2,a2),(3,p3,a3)] J ⟨none,0,0⟩ 0 (0 + 1) 0 [] a d li ni -> Stk w ⟨none,0,0⟩ [] -> Rn f (R7 (f :: l :: p1 :: p2 :: mc :: ex) V mc l m ⟨dmb,[]⟩ cr 0 (0 + 1) a d li ni wl self [(1,p1,b1),(2,p2,w2),(3,p3,w3)] (Jw J) [(1,p1,b1),(2,p2,o2),(3,p3,o3)] (Jo J)) n w) :
  Calls TryQ.prog 33 #[pq l 0,.agg (Bl 1 2 0 0 ((200000 : Nat) : Int) ((1 : Nat) : Int) 1)] W fun e w'=>∃ (r : Rs) (lv : SV),e = .returned (.tuple #[.agg (Dl r.good r.k r.s lv),.nilIface]) /\ (Z7 l m ⟨dmb,[]⟩ cr p1 p2 p3 wl self w2 w3 o2 o3 r w' /\ Pres (l :: p1 :: p2 :: dmb :: ex) [262,41,95] W w') /\ LgAt W.heap.size lv r.N r.xs w':=by
 have hll:=h.lj.lo
 have hln:=h.cell0.1
 have hn1 : p1 < W.heap.size:=Aa (h.acc (1,p1,a1) (by simp))
 have hn2 : p2 < W.heap.size:=Aa (h.acc (2,p2,a2) (by simp))
 have hdn : dmb < W.heap.size:=h.dmap.lt
 have hdl:=h.mlo.2
 have hlow:=gb.low
 have hBl : ∀ k ∈ l :: p1 :: p2 :: ex,k < W.heap.size /\ BaseB.b0 <= k:=fun k hk=>by
  simp only [List.mem_cons] at hk
  rcases hk with rfl | rfl | rfl | hk
  ·exact ⟨hln,hll⟩
  ·exact ⟨hn1,(h.lo (1,_,a1) (by simp)).1⟩
  ·exact ⟨hn2,(h.lo (2,_,a2) (by simp)).1⟩
  ·exact hex k hk
 refine do33 (p:=1) (x:=0) (g:=200000)
  (S1:=fun w=>(∃ b1 J1,LG w l m ⟨dmb,[]⟩ cr [(1,p1,b1),(2,p2,a2),(3,p3,a3)] J1 /\ b1.nonce = 0 /\ J1.length < 10 /\ b1.sl = []) /\ Pres [l,p1] [262] W w)
  (S2:=MidN W l m ⟨dmb,[]⟩ cr (l :: p1 :: p2 :: ex) p1 p2 p3 a d li ni wl self w2 w3 o2 o3)
  (S4:=fun r w=>Z7 l m ⟨dmb,[]⟩ cr p1 p2 p3 wl self w2 w3 o2 o3 r w /\ Pres (l :: p1 :: p2 :: dmb :: ex) [262,41,95] W w)
  (S5:=fun r w=>Z7 l m ⟨dmb,[]⟩ cr p1 p2 p3 wl self w2 w3 o2 o3 r w /\ Pres (l :: p1 :: p2 :: dmb :: ex) [262,41,95] W w)
  (by decide) (by decide) (fun w hb=>?_) (fun w hb=>?_) (fun w w' h1 hb=>⟨let ⟨L1,J1,k1,k2⟩:=h1.1; ⟨L1,J1,k1.below hb,k2⟩,h1.2.trans (.of_below hb _ _)⟩) (fun w mc h1 hmc hm=>?_) (fun mc t v r w w' h1 hb=>h1.below hb) (fun w mc t v r h2=>?_) (fun w mc t v r h2=>?_) (fun w mc t v r h2=>?_) (fun w mc t v r h2=>?_) (fun w r h4=>?_) (fun r w w' rb c h4 hrb hc hpp=>?_) (fun r w w' rb c h5 hrb hc hpp=>?_)
 ·exact Tn (h.below hb) (q:=(1,p1,a1)) (by simp) (by show (1 : Int) ≠ 0; decide) 2 0 0 200000 1 1 (by decide) (by decide) (by decide) (by decide) (by decide) (by decide) (by decide) hno (by decide) (by decide) (by decide) (by decide) (by show _ <= a1.bal; rw [hbal]; decide)
 ·refine (Aaa (h.below hb) (q:=(1,p1,a1)) (by simp) (200000 * 1) (by decide) (by simp)).mono ?_
  rintro e w' ⟨rfl,h1,h2⟩
  rw [Aci hne] at h1
  exact ⟨rfl,⟨⟨_,_,h1,hno,by simp,hsl⟩,(Pres.of_below hb _ _).trans h2⟩,Kp.pres h2 (fun k hk=>by simp at hk; omega) (by decide) (by decide)⟩
 ·obtain ⟨⟨b1,J1,hL1,hno1,hJ1,hsl1⟩,hP1⟩:=h1
  have hmb : BaseB.b0 <= mc:=by omega
  refine Adv hL1 hm (q:=(1,p1,b1)) (by simp) 2 0 0 200000 1 1 (by decide) (by decide) (by decide) (by show 0 <= b1.nonce; rw [hno1]; decide) (by show b1.nonce < _; rw [hno1]; decide) (by omega)
   (Φ:=fun e w'=>∃ t v r,e = .returned (.iface t v) /\ MidN W l m ⟨dmb,[]⟩ cr (l :: p1 :: p2 :: ex) p1 p2 p3 a d li ni wl self w2 w3 o2 o3 mc t v r w' /\ Kp W.heap.size w w')
   (fun e w' ⟨t,v,r,he,_⟩=>⟨t,v,he⟩) (fun v2 data hL2 hm2 hpr2=>?_)
  rw [Aci hne] at hL2
  have hP2 : Pres [l,p1] [262] W v2:=hP1.trans hpr2
  have gb2:=gb.pres hP2 (fun k hk=>(hBl k (by simp at hk; rcases hk with rfl | rfl <;> simp)).2)
  have hrun:=Aer (n:=n) (ex:=ex) (wl:=wl) (self:=self) hL2 hm2 gb2 (Nat.le_trans hb1 hP2.size) hmb (s:=(1,p1,{ b1 with nonce:=b1.nonce + 1 })) (q:=(2,p2,a2)) (by simp) (by simp) hne.1 (((200000 : Nat) : Int) - 21000) data (by simp; omega)
   (fun w f hf hfl hM hS=>hmain w v2 mc f _ _ data _ (by simp; omega) hf hfl hmb hM hS)
  refine hrun.mono ?_
  rintro e w' ⟨t,v,rfl,f,hfn,gl,g1,g2,hv,hO⟩
  simp only [Value.iface.injEq] at hv
  have hPres : ∀ {L J lg' N xs},Md (f :: l :: p1 :: p2 :: mc :: ex) v2 w' mc l m ⟨dmb,[]⟩ cr L J lg' 0 0 N xs a d li ni -> Pres (mc :: l :: p1 :: p2 :: ex) [262,41,95] W w':=fun hM=>by
   have e1 : Pres (mc :: l :: p1 :: p2 :: ex) [262,41,95] W v2:=hP2.mono (fun k _ hk=>by simp at hk; rcases hk with rfl | rfl <;> simp) (fun t ht=>by simp at ht; simp [ht])
   refine e1.thenx hM.pr (fun k hk=>?_)
   simp only [List.mem_cons] at hk ⊢
   rcases hk with rfl | hk | hk | hk | hk | hk
   ·exact .inr (Nat.le_trans hP2.size hfn)
   ·exact .inl (.inr (.inl hk))
   ·exact .inl (.inr (.inr (.inl hk)))
   ·exact .inl (.inr (.inr (.inr (.inl hk))))
   ·exact .inl (.inl hk)
   ·exact .inl (.inr (.inr (.inr (.inr hk))))
  have hKp : ∀ {L J lg' N xs},Md (f :: l :: p1 :: p2 :: mc :: ex) v2 w' mc l m ⟨dmb,[]⟩ cr L J lg' 0 0 N xs a d li ni -> Kp W.heap.size w w':=fun hM=>by
   have hPw : Pres [l,p1] [262] w v2:=hpr2
   refine (Kp.pres hPw (fun k hk=>(hBl k (by simp at hk; rcases hk with rfl | rfl <;> simp)).1) (by decide) (by decide)).trans ⟨hM.pr.size,fun k c t hk ht hc=>hM.pr.obj hc (by rcases ht with rfl | rfl <;> simp [I8]) (fun hkm=>?_)⟩
   simp only [List.mem_cons] at hkm
   rcases hkm with rfl | rfl | rfl | rfl | rfl | hkm
   ·have:=Aa hc; omega
   ·omega
   ·omega
   ·omega
   ·rw [hm2] at hc
    simp only [Option.some.injEq,Obj.cells.injEq] at hc
    rcases ht with rfl | rfl <;> exact absurd hc.2.1 (by decide)
   ·have:=(hex k hkm).1; omega
  rcases hO with ⟨hw,lg',hM⟩ | ⟨hw,lg',hM⟩
  ·exact ⟨t,v,⟨true,⟨#[]⟩,gl,0,200000 - gl,1,Ej self 7⟩,rfl,⟨⟨lg',_,_,.inl ⟨hw,rfl,rfl,hM.ld,hM.mc,hM.ow,hM.gb,hPres hM⟩,by refine Nat.lt_trans (hJw _ ?_).1 (by decide); simp; omega,hsl1⟩,hmc,hv,rfl,rfl,rfl,g1,g2,rfl⟩,hKp hM⟩
  ·exact ⟨t,v,⟨true,⟨#[]⟩,gl,0,200000 - gl,0,[]⟩,rfl,⟨⟨lg',_,_,.inr ⟨hw,rfl,rfl,hM.ld,hM.mc,hM.ow,hM.gb,hPres hM⟩,by refine Nat.lt_trans (hJw _ ?_).2 (by decide); simp; omega,hsl1⟩,hmc,hv,rfl,rfl,rfl,g1,g2,rfl⟩,hKp hM⟩
 ·obtain ⟨lg',b1,J,b2,b3,hc,hM,hJ,hs1⟩:=h2.all
  obtain ⟨rfl,rfl⟩:=h2.how
  refine (Tg (N:=r.N) (xs:=r.xs) hM.mc _ _ (fun V hb=>(Ari (hM.below hb) (by rcases hc with ⟨_,e1,e2,_⟩ | ⟨_,e1,e2,_⟩; exact .inr ⟨e1,_,_,e2⟩; exact .inl ⟨e1,e2⟩)).mono fun e w' h3=>h3)).mono ?_
  rintro e w' ⟨lv,rfl,hb,hl⟩
  exact ⟨lv,by rw [h2.r.1,h2.r.2.1],hb,hl.mono hM.pr.size⟩
 ·obtain ⟨rfl,rfl⟩:=h2.how
  exact ⟨366,_,Ac7 _,TryQ.call366,(Jf _ _ w).mono fun e w' ⟨h1,hb⟩=>⟨h1,hb⟩⟩
 ·obtain ⟨lg',b1,J,b2,b3,hc,hM,hJ,hs1⟩:=h2.all
  exact (Aho hM.mc).mono fun e w' ⟨h1,h3⟩=>⟨by rw [h1,h2.r.2.2.1],h3⟩
 ·obtain ⟨lg',b1,J,b2,b3,hc,hM,hJ,hs1⟩:=h2.all
  obtain ⟨r1,r2,r3,r4,r5,r6⟩:=h2.r
  obtain ⟨left,hleft⟩ : ∃ n : Nat,r.left = (n : Int):=⟨r.left.toNat,by omega⟩
  have hk : r.k = ((200000 - left : Nat) : Int):=by omega
  rw [r3,hleft,hk]
  refine (Ah6 hM.ld (q:=(1,p1,b1)) (by simp) 2 0 0 200000 1 left (200000 - left) (by omega) (by decide) (by decide) (by omega)).mono ?_
  rintro e w' ⟨x1,x2,J',rfl,hx2,h6,h7⟩
  rw [Aci hne,Aci hne] at h6
  refine ⟨rfl,⟨⟨r1,?_⟩,?_⟩,Kq.pres h7 (fun k hk=>by simp at hk; omega) (by decide) (by decide) (by decide)⟩
  ·rcases hc with ⟨c1,c2,c3,rfl,rfl⟩ | ⟨c1,c2,c3,rfl,rfl⟩
   ·exact .inl ⟨c1,c2,c3,_,_,h6,hx2.trans hs1⟩
   ·exact .inr ⟨c1,c2,c3,_,_,h6,hx2.trans hs1⟩
  ·exact ((hM.pr.drop h2.mcn).mono (B':=l :: p1 :: p2 :: dmb :: ex) (fun k _ hk=>by simp only [List.mem_cons] at hk ⊢; rcases hk with h | h | h | h <;> simp [h]) (fun t ht=>ht)).trans (h7.mono (fun k _ hk=>by simp at hk; rcases hk with rfl | rfl <;> simp) (fun t ht=>by simp at ht; simp [ht]))
 ·obtain ⟨⟨r1,hr⟩,hpr⟩:=h4
  have hset : ∀ {b2 b3},Ad0 l m ⟨dmb,[]⟩ cr p1 p2 p3 b2 b3 w -> Calls TryQ.prog 56 #[pq l 0] w fun e w'=>e = .returned (.tuple #[]) /\ Ad0 l m ⟨dmb,[]⟩ cr p1 p2 p3 b2 b3 w' /\ Pres [l,dmb] [] w w':=fun ⟨x1,J,hL,hx⟩=>(Ol hL).mono fun e w' ⟨e1,e2,e3⟩=>⟨e1,⟨_,_,e2,hx⟩,e3⟩
  have hkq : ∀ {w'},Pres [l,dmb] [] w w' -> Kq W.heap.size w w' /\ Pres (l :: p1 :: p2 :: dmb :: ex) [262,41,95] W w':=fun h2=>⟨Kq.pres h2 (fun k hk=>by simp at hk; omega) (by simp) (by simp) (by simp),hpr.trans (h2.mono (fun k _ hk=>by simp at hk; rcases hk with rfl | rfl <;> simp) (fun t ht=>by cases ht))⟩
  rcases hr with ⟨c1,c2,c3,hF⟩ | ⟨c1,c2,c3,hF⟩
  ·exact (hset hF).mono fun e w' ⟨e1,e2,e3⟩=>⟨e1,⟨⟨r1,.inl ⟨c1,c2,c3,e2⟩⟩,(hkq e3).2⟩,(hkq e3).1⟩
  ·exact (hset hF).mono fun e w' ⟨e1,e2,e3⟩=>⟨e1,⟨⟨r1,.inr ⟨c1,c2,c3,e2⟩⟩,(hkq e3).2⟩,(hkq e3).1⟩
 ·exact ⟨⟨h4.1.1,h4.1.2.imp (fun ⟨c1,c2,c3,x1,J,hL,hx⟩=>⟨c1,c2,c3,x1,J,hL.keep1 hpp hc (by simp) (by decide),hx⟩) (fun ⟨c1,c2,c3,x1,J,hL,hx⟩=>⟨c1,c2,c3,x1,J,hL.keep1 hpp hc (by simp) (by decide),hx⟩)⟩,h4.2.thenx (hpp.mono (fun k _ hk=>hk) (fun t ht=>by cases ht)) (fun k hk=>by simp at hk; subst hk; exact .inr hrb)⟩
 ·exact ⟨⟨h5.1.1,h5.1.2.imp (fun ⟨c1,c2,c3,x1,J,hL,hx⟩=>⟨c1,c2,c3,x1,J,hL.keep1 hpp hc (by simp) (by decide),hx⟩) (fun ⟨c1,c2,c3,x1,J,hL,hx⟩=>⟨c1,c2,c3,x1,J,hL.keep1 hpp hc (by simp) (by decide),hx⟩)⟩,h5.2.thenx (hpp.mono (fun k _ hk=>hk) (fun t ht=>by cases ht)) (fun k hk=>by simp at hk; subst hk; exact .inr hrb)⟩
end Go.Mark
