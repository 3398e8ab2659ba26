import Derived.Test.YtbephahokhnccaaGreatDoorXM6toM7
import Derived.Test.YtbephahokhnccaaGreatDoorXM8toM9
set_option linter.unusedSectionVars false
set_option maxRecDepth 100000
set_option maxHeartbeats 8000000
namespace Go.Mark
open Go.RowKit Go.Proofs Go.Lift
variable [BaseB]
section
attribute [local go_sem] wd
def Ea (bad : Bool) (v g : Nat) : Bool:=!bad && decide (v <= 50) && decide (20390 <= if 0 < v then g + 2300 else g)
theorem str5 {T : Array Value} {bad lent : Bool} {g v : Nat} {v17 v19 : Value} (hT : F8 T bad lent g v) (h17 : T[17]? = some v17) (h19 : T[19]? = some v19) (hg : g < 60000) (hv : v < 100) (W : World) (Φ : Act -> World -> Prop) (hΦ : ∀ T',F8 T' bad lent g v -> T'[17]? = some v17 -> T'[19]? = some v19 -> T'[21]? = some (.bool (Ea bad v g)) -> Φ ⟨T',[]⟩ W) :
  (ng8 13).wp TryQ.prog (fun e a w=>e = .normal /\ (ng8 14).wp TryQ.prog (fun e a w=>e = .normal /\ (ng8 15).wp TryQ.prog (fun e a w=>e = .normal /\ Φ a w) a w) a w) ⟨T,[]⟩ W:=by
 have hΦs : Shut _:=hΦ
 clear hΦ
 obtain ⟨x,rfl⟩:=U5 T hT.sz
 have e2 : x 2 = _:=Option.some.inj hT.t2
 have e3 : x 3 = _:=Option.some.inj hT.t3
 have e8 : x 8 = _:=Option.some.inj hT.t8
 have e9 : x 9 = _:=Option.some.inj hT.t9
 have e10 : x 10 = _:=Option.some.inj hT.t10
 have e11 : x 11 = _:=Option.some.inj hT.t11
 have e17 : x 17 = _:=Option.some.inj h17
 have e19 : x 19 = _:=Option.some.inj h19
 clear hT h17 h19
 rw [e2,e3,e8,e9,e10,e11,e17,e19]
 clear e2 e3 e8 e9 e10 e11 e17 e19
 have i1 : IntKind.i64.wrap ((g : Int) + 2300) = (g : Int) + 2300:=IntWalk.i64_in _ ⟨by omega,by omega⟩
 dsimp only [ng8,hd8,tl8,nc8,Tryz.f8]
 by_cases h0 : 0 < v
 ·have h0' : (0 : Int) < (v : Int):=by omega
  cases bad
  ·by_cases h5 : v <= 50
   ·have h5' : (v : Int) <= 50:=by omega
    by_cases h2 : 20390 <= g + 2300
    ·have h2' : (20390 : Int) <= (g : Int) + 2300:=by omega
     (go_wp2_with fail)
     exact hΦs.out _ ⟨rfl,rfl,rfl,rfl,rfl,rfl,rfl⟩ rfl rfl (by simp [Ea,h0,h5,h2] <;> omega)
    ·have h2' : ¬ (20390 : Int) <= (g : Int) + 2300:=by omega
     (go_wp2_with fail)
     exact hΦs.out _ ⟨rfl,rfl,rfl,rfl,rfl,rfl,rfl⟩ rfl rfl (by simp [Ea,h0,h5,h2] <;> omega)
   ·have h5' : ¬ (v : Int) <= 50:=by omega
    (go_wp2_with fail)
    exact hΦs.out _ ⟨rfl,rfl,rfl,rfl,rfl,rfl,rfl⟩ rfl rfl (by simp [Ea,h5])
  ·(go_wp2_with fail)
   exact hΦs.out _ ⟨rfl,rfl,rfl,rfl,rfl,rfl,rfl⟩ rfl rfl (by simp [Ea])
 ·have h0' : ¬ (0 : Int) < (v : Int):=by omega
  have h5' : (v : Int) <= 50:=by omega
  have h5 : v <= 50:=by omega
  cases bad
  ·by_cases h2 : 20390 <= g
   ·have h2' : (20390 : Int) <= (g : Int):=by omega
    (go_wp2_with fail)
    exact hΦs.out _ ⟨rfl,rfl,rfl,rfl,rfl,rfl,rfl⟩ rfl rfl (by simp [Ea,h0,h5,h2] <;> omega)
   ·have h2' : ¬ (20390 : Int) <= (g : Int):=by omega
    (go_wp2_with fail)
    exact hΦs.out _ ⟨rfl,rfl,rfl,rfl,rfl,rfl,rfl⟩ rfl rfl (by simp [Ea,h0,h5,h2] <;> omega)
  ·(go_wp2_with fail)
   exact hΦs.out _ ⟨rfl,rfl,rfl,rfl,rfl,rfl,rfl⟩ rfl rfl (by simp [Ea])
theorem str4 {T : Array Value} {bad lent : Bool} {g v pw : Nat} (hT : F8 T bad lent g v) (h15 : T[15]? = some (pq pw 0)) (h16 : T[16]? = some .nilIface) (W : World) {S : Int -> ByteArray -> SV -> World -> Prop} {R : Int -> ByteArray -> SV -> Nat -> Nat -> World -> Prop} (hdo : Calls TryQ.prog 15 #[pq pw 0,.agg (Bl 1 2 0 0 200000 1 1)] W fun e w'=>∃ k s lv,e = .returned (.tuple #[.agg (Dl true k s lv),.nilIface]) /\ S k s lv w')
  (hac : ∀ k s lv w,S k s lv w -> Calls TryQ.prog 17 #[pq pw 0] (w.alloc (.cells (Dl true k s lv) 34)) fun e w'=>∃ ga cap,e = .returned (.slice (some ⟨ga,0,none⟩) 3 cap) /\ w'.heap[w.heap.size]? = ob (Dl true k s lv) 34 /\ R k s lv ga cap w')
  (Φ : Act -> World -> Prop) (hΦ : ∀ T' k s lv rb ga cap w',F8 T' bad lent g v -> T'[17]? = some (pq rb 0) -> T'[19]? = some (.slice (some ⟨ga,0,none⟩) 3 cap) -> w'.heap[rb]? = ob (Dl true k s lv) 34 -> R k s lv ga cap w' -> Φ ⟨T',[]⟩ w') :
  (ng8 9).wp TryQ.prog (fun e a w=>e = .normal /\ (ng8 10).wp TryQ.prog (fun e a w=>e = .normal /\ (ng8 11).wp TryQ.prog (fun e a w=>e = .normal /\ (ng8 12).wp TryQ.prog (fun e a w=>e = .normal /\ Φ a w) a w) a w) a w) ⟨T,[]⟩ W:=by
 have hΦs : Shut _:=hΦ
 have has : Shut _:=hac
 clear hΦ hac
 obtain ⟨x,rfl⟩:=U5 T hT.sz
 have e2 : x 2 = _:=Option.some.inj hT.t2
 have e3 : x 3 = _:=Option.some.inj hT.t3
 have e8 : x 8 = _:=Option.some.inj hT.t8
 have e9 : x 9 = _:=Option.some.inj hT.t9
 have e10 : x 10 = _:=Option.some.inj hT.t10
 have e11 : x 11 = _:=Option.some.inj hT.t11
 have e15 : x 15 = _:=Option.some.inj h15
 have e16 : x 16 = _:=Option.some.inj h16
 clear hT h15 h16
 rw [e2,e3,e8,e9,e10,e11,e15,e16]
 clear e2 e3 e8 e9 e10 e11 e15 e16
 unfold Bl at hdo
 dsimp only [ng8,hd8,tl8,nc8,Tryz.f8]
 (go_wp2_with fail)
 refine hdo.mono ?_
 rintro e w1 ⟨k,s,lv,rfl,hS⟩
 clear hdo
 have hac:=has.out k s lv w1 hS
 clear has hS
 unfold Dl
 (go_wp2_with fail)
 change Calls _ _ _ (w1.alloc (.cells (Dl true k s lv) 34)) _
 refine hac.mono ?_
 rintro e w2 ⟨ga,cap,rfl,hr,hR⟩
 clear hac
 generalize w1.heap.size = rb at hr ⊢
 have c0:=bq hr 0 rfl
 have hRs : Shut _:=hR
 clear hR
 (go_wp2_with fail)
 exact hΦs.out _ k s lv rb ga cap _ ⟨rfl,rfl,rfl,rfl,rfl,rfl,rfl⟩ rfl rfl hr hRs.out
theorem str6 {T : Array Value} {bad lent well : Bool} {g v rb ga cap : Nat} {k : Int} {s : ByteArray} {lv : SV} (hT : F8 T bad lent g v) (h17 : T[17]? = some (pq rb 0)) (h19 : T[19]? = some (.slice (some ⟨ga,0,none⟩) 3 cap)) (h21 : T[21]? = some (.bool well)) (W : World) (hr : W.heap[rb]? = ob (Dl true k s lv) 34) (hne : Calls TryQ.prog 27 #[.agg (Dl true k s lv),.slice (some ⟨ga,0,none⟩) 3 cap,.bool well,.bool lent,.int .i64 (v : Int)] W fun e w'=>e = .returned (.bool true) /\ Below W.heap.size W w') (Φ : Act -> World -> Prop) (hΦ : ∀ T' w',T'[8]? = some (.bool true) -> Below W.heap.size W w' -> Φ ⟨T',[]⟩ w') :
  (ng8 16).wp TryQ.prog (fun e a w=>e = .normal /\ Φ a w) ⟨T,[]⟩ W:=by
 have hΦs : Shut _:=hΦ
 clear hΦ
 obtain ⟨x,rfl⟩:=U5 T hT.sz
 have e2 : x 2 = _:=Option.some.inj hT.t2
 have e3 : x 3 = _:=Option.some.inj hT.t3
 have e8 : x 8 = _:=Option.some.inj hT.t8
 have e9 : x 9 = _:=Option.some.inj hT.t9
 have e10 : x 10 = _:=Option.some.inj hT.t10
 have e11 : x 11 = _:=Option.some.inj hT.t11
 have e17 : x 17 = _:=Option.some.inj h17
 have e19 : x 19 = _:=Option.some.inj h19
 have e21 : x 21 = _:=Option.some.inj h21
 clear hT h17 h19 h21
 rw [e2,e3,e8,e9,e10,e11,e17,e19,e21]
 clear e2 e3 e8 e9 e10 e11 e17 e19 e21
 unfold Dl at hne
 have c0:=bq hr 0 rfl
 have c1:=bq hr 1 rfl
 have c2:=bq hr 2 rfl
 have c3:=bq hr 3 rfl
 have c4:=bq hr 4 rfl
 dsimp only [ng8,hd8,tl8,nc8,Tryz.f8]
 (go_wp2_with fail)
 refine hne.mono ?_
 rintro e w1 ⟨rfl,hb⟩
 clear hne c0 c1 c2 c3 c4
 (go_wp2_with fail)
 exact hΦs.out _ _ rfl hb
end
structure Gd (lent well : Bool) (v : Nat) (b2 b3 : Ac) : Prop where
 c2 : b2.bal = if well then 50 - v else 50
 c3 : b3.bal = 50 - b2.bal
 l2 : b2.sl.length < 1000
 l3 : b3.sl.length < 1000
 t2 : (srt (fun q : Nat × Nat=>(q.1 : Int)) b2.sl).length < 1000000
 t3 : (srt (fun q : Nat × Nat=>(q.1 : Int)) b3.sl).length < 1000000
 m2 : ∀ p ∈ srt (fun q : Nat × Nat=>(q.1 : Int)) b2.sl,p.1 < M /\ p.2 < M
 m3 : ∀ p ∈ srt (fun q : Nat × Nat=>(q.1 : Int)) b3.sl,p.1 < M /\ p.2 < M
 a5 : ((srt (fun q : Nat × Nat=>(q.1 : Int)) b2.sl).any fun p=>decide (p.1 = 5) && decide (p.2 = if well then 2 else 1)) = true
 a1 : ((if lent then srt (fun q : Nat × Nat=>(q.1 : Int)) b2.sl else srt (fun q : Nat × Nat=>(q.1 : Int)) b3.sl).any fun p=>decide (p.1 = 1) && decide (p.2 = 9)) = well
theorem Aha {u : World} {T : Array Value} {bad lent : Bool} {g v pw l m p1 p2 p3 dmb : Nat} {cr : Int} {wl : Prop} {self : Int} {w2 w3 o2 o3 : Ac} {ex : List Nat} (hT : F8 T bad lent g v) (h15 : T[15]? = some (pq pw 0)) (h16 : T[16]? = some .nilIface) (hg : g < 60000) (hv : v < 100) (hdo : Calls TryQ.prog 15 #[pq pw 0,.agg (Bl 1 2 0 0 ((200000 : Nat) : Int) ((1 : Nat) : Int) 1)] u fun e w'=>∃ (r : Rs) (lv : SV),e = .returned (.tuple #[.agg (Dl r.good r.k r.s lv),.nilIface]) /\ (Z7 l m ⟨dmb,[]⟩ cr p1 p2 p3 wl self w2 w3 o2 o3 r w' /\ Pres (l :: p1 :: p2 :: dmb :: ex) [262,41,95] u w') /\ LgAt u.heap.size lv r.N r.xs w')
  (hb0 : BaseB.b0 <= u.heap.size) (hbz : ∀ w',Pres (l :: p1 :: p2 :: dmb :: ex) [262,41,95] u w' -> Bz u w' /\ w'.heap[pw]? = ob #[pq l 0] 87) (hself : self = if lent then 2 else 3) (hgw : wl -> Ea bad v g = true /\ Gd lent true v w2 w3) (hgo : ¬ wl -> Ea bad v g = false /\ Gd lent false v o2 o3) (hv5 : Ea bad v g = true -> v <= 50) (Φ : Act -> World -> Prop) (hΦ : ∀ T' v',T'[8]? = some (.bool true) -> Bz u v' -> Φ ⟨T',[]⟩ v') :
  Da TryQ.prog (fun a' v'=>a'.defers = [] /\ Φ a' v') [ng8 9,ng8 10,ng8 11,ng8 12,ng8 13,ng8 14,ng8 15,ng8 16] ⟨T,[]⟩ u:=by
 refine str4 (Φ:=fun a w=>Da TryQ.prog (fun a' v'=>a'.defers = [] /\ Φ a' v') [ng8 13,ng8 14,ng8 15,ng8 16] a w) hT h15 h16 u
  (S:=fun k s lv w=>∃ r : Rs,k = r.k /\ s = r.s /\ Z7 l m ⟨dmb,[]⟩ cr p1 p2 p3 wl self w2 w3 o2 o3 r w /\ Pres (l :: p1 :: p2 :: dmb :: ex) [262,41,95] u w /\ LgAt u.heap.size lv r.N r.xs w)
  (R:=fun k s lv ga cap w=>∃ (b2 b3 : Ac) (N : Nat) (xs : List Value) (cur : Array Value) (s2 s3 : SV),N = (if Ea bad v g then 1 else 0) /\ (Ea bad v g = true -> xs = Ej self 7) /\ Gd lent (Ea bad v g) v b2 b3 /\ LgAt u.heap.size lv N xs w /\ Bz u w /\ w.heap[ga]? = ob cur 52 /\
   (∀ i,i < 4 -> cur[9 + i]? = some (.int .u64 (lim b2.bal i)) /\ cur[17 + i]? = some (.int .u64 (lim b3.bal i))) /\ (cur[8]? = some (.int .i64 2) /\ cur[16]? = some (.int .i64 3)) /\ (cur[15]? = some (.slice s2.a s2.n s2.c) /\ cur[23]? = some (.slice s3.a s3.n s3.c)) /\ SlOk w s2 (srt (fun q=>(q.1 : Int)) b2.sl) /\ SlOk w s3 (srt (fun q=>(q.1 : Int)) b3.sl))
  (hdo.mono fun e w' ⟨r,lv,h1,⟨h2,h3⟩,h4⟩=>⟨r.k,r.s,lv,by rw [h1,h2.1],r,rfl,rfl,h2,h3,h4⟩)
  (fun k s lv w ⟨r,hk,hs,hR,hP,hl⟩=>?_) (fun T1 k s lv rb ga cap w1 hT1 h17 h19 hr1 hR=>?_)
 ·have hbx : Below w.heap.size w (w.alloc (.cells (Dl true k s lv) 34)):=ba
  have hrow:=Al w (.cells (Dl true k s lv) 34)
  obtain ⟨hz,hpw⟩:=hbz w hP
  have hpw':=bk hbx hpw
  obtain ⟨b2,b3,hG,⟨a1,J,hL,hx⟩,hN,hxs⟩ : ∃ b2 b3,Gd lent (Ea bad v g) v b2 b3 /\ Ad0 l m ⟨dmb,[]⟩ cr p1 p2 p3 b2 b3 w /\ r.N = (if Ea bad v g then 1 else 0) /\ (Ea bad v g = true -> r.xs = Ej self 7):=by
   rcases hR.2 with ⟨hw,e1,e2,hF⟩ | ⟨hw,e1,e2,hF⟩
   ·obtain ⟨hwb,hG⟩:=hgw hw
    exact ⟨w2,w3,by rw [hwb]; exact hG,hF,by rw [hwb,e1]; rfl,fun _=>e2⟩
   ·obtain ⟨hwb,hG⟩:=hgo hw
    exact ⟨o2,o3,by rw [hwb]; exact hG,hF,by rw [hwb,e1]; rfl,fun h=>by rw [hwb] at h; cases h⟩
  exact (accN (b2:=b2) (b3:=b3) ⟨a1,J,hL.below hbx,hx⟩ (by rw [Ad hpw' 0]; rfl) hG.l2 hG.l3).mono fun e w' ⟨ga,cap,cur,s2,s3,he,hb,hgc,_,hc,hid,hsl,k2,k3⟩=>⟨ga,cap,he,(hb.block _ (Aa hrow)).trans hrow,b2,b3,r.N,r.xs,cur,s2,s3,hN,hxs,hG,(hl.below hbx).below hb,(hz.grow hb0 hbx).grow hb0 hb,hgc,hc,hid,hsl,k2,k3⟩
 ·refine str5 (Φ:=fun a w=>Da TryQ.prog (fun a' v'=>a'.defers = [] /\ Φ a' v') [ng8 16] a w) hT1 h17 h19 hg hv w1 (fun T2 hT2 h17 h19 h21=>?_)
  obtain ⟨b2,b3,N,xs,cur,s2,s3,hN,hxs,hG,hl,hz,hgc,hc,hid,hsl,k2,k3⟩:=hR
  refine str6 (Φ:=fun a w=>Da TryQ.prog (fun a' v'=>a'.defers = [] /\ Φ a' v') [] a w) hT2 h17 h19 h21 w1 hr1
   (Aim (b2:=b2.bal) (cur:=cur) (s2:=s2) (s3:=s3) (N:=N) (xs:=xs) (B:=u.heap.size) (Ea bad v g) lent v hv5 hN (fun h=>by rw [hxs h,hself]) hl hgc hG.c2 (fun i hi=>by rw [<- hG.c3]; exact hc i hi) hid hsl k2 k3 hG.m2 hG.m3 hG.t2 hG.t3 hG.a5 hG.a1) (fun T3 w3 h8 hb=>⟨rfl,hΦ T3 w3 h8 (hz.grow hb0 hb)⟩)
theorem Aa5 {W : World} {pl : Nat} {d1 d2 d3 : Bt} {s1 s2 s3 : SV} {L : AL} (h : MadeL W pl [(d1,s1),(d2,s2),(d3,s3)] L) :
  ∃ m dmb p1 ms1 k1 p2 ms2 k2 p3 ms3 k3,LG W pl m ⟨dmb,[]⟩ 0 [Gz d1 k1 p1 ms1,Gz d2 k2 p2 ms2,Gz d3 k3 p3 ms3] [] /\ (p1 ≠ p2 /\ p1 ≠ p3 /\ p2 ≠ p3):=by
 obtain ⟨⟨m,dmb,hL⟩,hlen,hlst⟩:=h
 obtain ⟨p1,ms1,b1,e1,_⟩:=hlst 0 d1 rfl
 obtain ⟨p2,ms2,b2,e2,_⟩:=hlst 1 d2 rfl
 obtain ⟨p3,ms3,b3,e3,_⟩:=hlst 2 d3 rfl
 match L,hlen with
 | [q1,q2,q3],_ =>
  simp only [List.getElem?_cons_zero,List.getElem?_cons_succ,Option.some.injEq] at e1 e2 e3
  subst e1 e2 e3
  have hn:=hL.ndb
  refine ⟨m,dmb,p1,ms1,_,p2,ms2,_,p3,ms3,_,hL,fun e=>?_,fun e=>?_,fun e=>?_⟩ <;> simp [Gz,e] at hn
theorem lastB (bad : Bool) : ((if bad then 255 else 0 : UInt8) = 0 ↔ bad = false) /\ ((if bad then 255 else 0 : UInt8) = 0 \/ (if bad then 255 else 0 : UInt8) = 255):=by cases bad <;> decide
theorem Ag5 {lent well : Bool} {v : Nat} {b2 b3 : Ac} (x y : List (Nat × Nat)) (e2 : b2.sl = x) (e3 : b3.sl = y) (h2 : b2.bal = if well then 50 - v else 50) (h3 : b3.bal = 50 - b2.bal) (hl : x.length < 1000 /\ y.length < 1000 /\ (srt (fun q : Nat × Nat=>(q.1 : Int)) x).length < 1000000 /\ (srt (fun q : Nat × Nat=>(q.1 : Int)) y).length < 1000000) (hm : (∀ p ∈ srt (fun q : Nat × Nat=>(q.1 : Int)) x,p.1 < M /\ p.2 < M) /\ ∀ p ∈ srt (fun q : Nat × Nat=>(q.1 : Int)) y,p.1 < M /\ p.2 < M) (h5 : ((srt (fun q : Nat × Nat=>(q.1 : Int)) x).any fun p=>decide (p.1 = 5) && decide (p.2 = if well then 2 else 1)) = true) (h1 : ((if lent then srt (fun q : Nat × Nat=>(q.1 : Int)) x else srt (fun q : Nat × Nat=>(q.1 : Int)) y).any fun p=>decide (p.1 = 1) && decide (p.2 = 9)) = well) : Gd lent well v b2 b3:=by
 subst e2 e3
 exact ⟨h2,h3,hl.1,hl.2.1,hl.2.2.1,hl.2.2.2,hm.1,hm.2,h5,h1⟩
theorem Arm {v y : Nat} {a2 a3 : Ac} (hv : v <= 50) (hy : y = 50 - v) : Gd false true v { a2 with bal:=y,sl:=[(5,2)] } { a3 with bal:=v,sl:=[(1,9)] } :=
 Ag5 [(5,2)] [(1,9)] rfl rfl (by rw [hy]; rfl) (by show v = 50 - y; omega) (by decide) (by decide) (by decide) (by decide)
theorem gd_o {lent : Bool} {v : Nat} {a2 a3 : Ac} (h2 : a2.bal = 50) (h3 : a3.bal = 0) (hs : a3.sl = []) : Gd lent false v { a2 with sl:=[(5,1)] } a3 :=
 Ag5 [(5,1)] [] rfl hs h2 (by rw [h3]; show 0 = 50 - a2.bal; omega) (by decide) (by decide) (by decide) (by cases lent <;> decide)
theorem Arl {a2 a3 : Ac} (h2 : a2.bal = 50) (h3 : a3.bal = 0) (hs : a3.sl = []) : Gd true true 0 { a2 with sl:=D9 5 2 [(1,9)] } a3 :=
 Ag5 (D9 5 2 [(1,9)]) [] rfl hs h2 (by rw [h3]; show 0 = 50 - a2.bal; omega) (by decide) (by decide) (by decide) (by decide)
theorem Aps {u : World} {T : Array Value} {bad lent : Bool} {g v pw pl : Nat} {L : AL} {ct st : ByteArray} {a d li ni : Addr} (hT : F8 T bad lent g v) (h15 : T[15]? = some (pq pw 0)) (h16 : T[16]? = some .nilIface) (hg : g < 60000) (hv : v < 100) (hlent : lent = true -> v = 0) (hct : ct.data = cdC (if bad then 255 else 0)) (hst : st.data = if lent then cdL (UInt8.ofNat (g / 256)) (UInt8.ofNat g) else cdM (UInt8.ofNat v) (UInt8.ofNat (g / 256)) (UInt8.ofNat g)) (hmade : MadeL u pl [(d8a,⟨none,0,0⟩),(d8b st,⟨none,0,0⟩),(d8c ct,⟨none,0,0⟩)] L) (hpo : u.heap[pw]? = ob #[pq pl 0] 87) (hb0 : BaseB.b0 <= u.heap.size) (hb1 : BaseB.b1 <= u.heap.size) (gb : Gb u a d li ni) (Φ : Act -> World -> Prop) (hΦ : ∀ T' v',T'[8]? = some (.bool true) -> Bz u v' -> Φ ⟨T',[]⟩ v') :
  Da TryQ.prog (fun a' v'=>a'.defers = [] /\ Φ a' v') [ng8 9,ng8 10,ng8 11,ng8 12,ng8 13,ng8 14,ng8 15,ng8 16] ⟨T,[]⟩ u:=by
 obtain ⟨m,dmb,p1,ms1,k1,p2,ms2,k2,p3,ms3,k3,hL,hne⟩:=Aa5 hmade
 obtain ⟨a1,ha1⟩ : ∃ a1 : Ac,a1 = ⟨1000000,0,⟨#[]⟩,k1,ms1,[]⟩:=⟨_,rfl⟩
 obtain ⟨a2,ha2⟩ : ∃ a2 : Ac,a2 = ⟨50,0,st,k2,ms2,[]⟩:=⟨_,rfl⟩
 obtain ⟨a3,ha3⟩ : ∃ a3 : Ac,a3 = ⟨0,0,ct,k3,ms3,[]⟩:=⟨_,rfl⟩
 have hL' : LG u pl m ⟨dmb,[]⟩ 0 [(1,p1,a1),(2,p2,a2),(3,p3,a3)] []:=by rw [ha1,ha2,ha3]; exact hL
 clear hL hmade
 have q1:=hL'.acc (1,p1,a1) (by simp)
 have q2:=hL'.acc (2,p2,a2) (by simp)
 have q3:=hL'.acc (3,p3,a3) (by simp)
 have l1:=hL'.lo (1,p1,a1) (by simp)
 have l2:=hL'.lo (2,p2,a2) (by simp)
 have l3:=hL'.lo (3,p3,a3) (by simp)
 obtain ⟨es2,ec2,m2,_⟩:=hL'.slot (2,p2,a2) (by simp)
 obtain ⟨es3,ec3,m3,_⟩:=hL'.slot (3,p3,a3) (by simp)
 obtain ⟨jv,hl,_⟩:=hL'.lj.ex
 obtain ⟨cd,hd⟩:=Jm hL'.dmap
 have hll:=hL'.lj.lo
 have hdl:=hL'.mlo.2
 have hex : ∀ k ∈ [p3,a2.ms,a3.ms],k < u.heap.size /\ BaseB.b0 <= k:=fun k hk=>by
  simp only [List.mem_cons,List.not_mem_nil,or_false] at hk
  rcases hk with rfl | rfl | rfl
  ·exact ⟨Aa q3,l3.1⟩
  ·exact ⟨(Array.getElem?_eq_some_iff.1 m2).1,l2.2⟩
  ·exact ⟨(Array.getElem?_eq_some_iff.1 m3).1,l3.2⟩
 have hpx : pw ∉ [p3,a2.ms,a3.ms]:=by
  simp only [List.mem_cons,List.not_mem_nil,or_false,not_or]
  exact ⟨Bc hpo q3 (by decide),Ci hpo m2 (fun e=>by cases e),Ci hpo m3 (fun e=>by cases e)⟩
 have hbz : ∀ w',Pres (pl :: p1 :: p2 :: dmb :: [p3,a2.ms,a3.ms]) [262,41,95] u w' -> Bz u w' /\ w'.heap[pw]? = ob #[pq pl 0] 87:=fun w' hp=>by
  have hB : ∀ b ∈ pl :: p1 :: p2 :: dmb :: [p3,a2.ms,a3.ms],BaseB.b0 <= b /\ (∀ e,u.heap[b]? ≠ some (.cells #[] e)) /\ pw ≠ b:=fun b hb=>by
   simp only [List.mem_cons,List.not_mem_nil,or_false] at hb
   rcases hb with rfl | rfl | rfl | rfl | rfl | rfl | rfl
   ·exact ⟨hll,Km hl (by simp),Bc hpo hl (by decide)⟩
   ·exact ⟨l1.1,Km q1 (by simp [Bd]),Bc hpo q1 (by decide)⟩
   ·exact ⟨l2.1,Km q2 (by simp [Bd]),Bc hpo q2 (by decide)⟩
   ·exact ⟨hdl,P5 hd,Ci hpo hd (fun e=>by cases e)⟩
   ·exact ⟨l3.1,Km q3 (by simp [Bd]),Bc hpo q3 (by decide)⟩
   ·exact ⟨l2.2,P5 m2,Ci hpo m2 (fun e=>by cases e)⟩
   ·exact ⟨l3.2,P5 m3,Ci hpo m3 (fun e=>by cases e)⟩
  exact ⟨hp.bz (hp.low (fun b hb=>(hB b hb).1) hb0) (fun b hb=>(hB b hb).2.1),hp.obj hpo (by show (87 : Nat) ∉ [262,41,95]; decide) (fun hb=>(hB pw hb).2.2 rfl)⟩
 have hgb : (UInt8.ofNat (g / 256)).toNat * 256 + (UInt8.ofNat g).toNat = g:=by simp; omega
 obtain ⟨hl0,hl1⟩:=lastB bad
 have hb2 : a2.bal = 50:=by rw [ha2]
 have hb3 : a3.bal = 0:=by rw [ha3]
 have hs2 : a2.sl = []:=by rw [ha2]
 have hs3 : a3.sl = []:=by rw [ha3]
 have hc2 : a2.code = st:=by rw [ha2]
 have hc3 : a3.code = ct:=by rw [ha3]
 have r1 : a1.bal = 1000000:=by rw [ha1]
 have r2 : a1.nonce = 0:=by rw [ha1]
 have r3 : a1.sl = []:=by rw [ha1]
 clear ha1 ha2 ha3
 cases lent
 ·have hvb : (UInt8.ofNat v).toNat = v:=by simp; omega
  have hy : v <= 50 -> (a2.bal + M - v) % M = 50 - v:=fun h=>by
   rw [hb2,show 50 + M - v = 50 - v + M by omega,Nat.add_mod_right]
   exact Nat.mod_eq_of_lt (Nat.lt_of_le_of_lt (Nat.sub_le _ _) (by decide))
  have hX : (v = 0 /\ (if v = 0 then 0 else 9000 : Int) = 0) \/ (v ≠ 0 /\ (if v = 0 then 0 else 9000 : Int) = 9000):=by by_cases h : v = 0 <;> simp [h]
  have hG : (v = 0 /\ (if v = 0 then (g : Int) else g + 2300) = (g : Int)) \/ (v ≠ 0 /\ (if v = 0 then (g : Int) else g + 2300) = (g : Int) + 2300):=by by_cases h : v = 0 <;> simp [h]
  have hwl : (v <= a2.bal /\ 20390 <= (if v = 0 then (g : Int) else g + 2300) /\ (if bad then 255 else 0 : UInt8) = 0) ↔ Ea bad v g = true:=by
   rw [hb2]
   clear hct hl0 hl1 hT
   by_cases h : v = 0
   ·subst h
    cases bad <;> simp [Ea] <;> omega
   ·have h':=Nat.pos_of_ne_zero h
    cases bad <;> simp [Ea,h,h'] <;> omega
  refine Aha hT h15 h16 hg hv (Am2 (n:=13) hL' gb hb1 hne r1 r2 r3 hex (Jw:=fun J=>J1 (J ++ (Rs2 (2,p2,a2) (3,p3,a3)).reverse) (pb (3,p3,a3) v) ++ [D7 p2 5 0]) (Jo:=fun J=>J ++ [D7 p2 5 0]) (fun J hJ=>by simp [J1,Rs2]; omega) (Arf hne (by rw [hc2]; exact hst) hvb hgb hv hg hX hG rfl hb3 (by rw [hc3]; exact hct) hl1 hs2 hs3) hpo hpx) hb0 hbz rfl
   (fun h=>⟨hwl.1 h,Arm (by rw [<- hb2]; exact h.1) (hy (by rw [<- hb2]; exact h.1))⟩) (fun h=>⟨by rw [<- Bool.not_eq_true]; exact fun e=>h (hwl.2 e),gd_o hb2 hb3 hs3⟩) (fun h=>by have:=(hwl.2 h).1; omega) Φ hΦ
 ·obtain rfl:=hlent rfl
  have hwl : (20390 <= (g : Int) /\ (if bad then 255 else 0 : UInt8) = 0) ↔ Ea bad 0 g = true:=by
   clear hct hl0 hl1 hT
   cases bad <;> simp [Ea] <;> omega
  refine Aha hT h15 h16 hg hv (Am2 (n:=12) hL' gb hb1 hne r1 r2 r3 hex (Jw:=fun J=>J1 J (2,p2,a2) ++ [D7 p2 5 0]) (Jo:=fun J=>J ++ [D7 p2 5 0]) (fun J hJ=>by simp [J1]; omega) (Ard hne (by rw [hc2]; exact hst) hgb hg (by rw [hc3]; exact hct) hl1 hs2) hpo hpx) hb0 hbz rfl
   (fun h=>⟨hwl.1 h,Arl hb2 hb3 hs3⟩) (fun h=>⟨by rw [<- Bool.not_eq_true]; exact fun e=>h (hwl.2 e),gd_o hb2 hb3 hs3⟩) (fun _=>by omega) Φ hΦ
end Go.Mark
namespace Go.Mark
open Go.Conc Go.Walk Go.Phase Go.RowKit Go.Conc.Lib Go.ConcR.Gen Go.ConcN.Gen Go.Lift Go.Proofs
open Go.ConcN (WgLive Has RW DWs AtR0 PayAt)
open Go.ConcR (KK WgAt stA smA rd wr mk Payload)
variable [BaseB]
theorem Aod : nc8 = chain [ng8 0,ng8 1,ng8 2,ng8 3,ng8 4,ng8 5,ng8 6,ng8 7] nd8:=by kernel_rfl
theorem An9 : nr8 = chain [ng8 9,ng8 10,ng8 11,ng8 12,ng8 13,ng8 14,ng8 15,ng8 16] .ret:=by kernel_rfl
theorem Aq8 : Gl Tryz.prog Ko = true:=by kernel_rfl
theorem Amt : Gl Tryz.prog nops84 = true:=by kernel_rfl
theorem okn8 : Br Tryz.prog nc8 = true:=by kernel_rfl
theorem Ara : Br Tryz.prog (chain [ng8 0,ng8 1,ng8 2,ng8 3,ng8 4,ng8 5,ng8 6,ng8 7] nd8) = true:=by kernel_rfl
theorem Aq9 : Br Tryz.prog nd8 = true:=by kernel_rfl
theorem Amu : Br Tryz.prog nr8 = true:=by kernel_rfl
theorem An7 : Br Tryz.prog (chain [ng8 9,ng8 10,ng8 11,ng8 12,ng8 13,ng8 14,ng8 15,ng8 16] .ret) = true:=by kernel_rfl
def t8A (n z : Int) (bad lent : Bool) : Array Value:=#[.int .i64 n,.int .i64 z,.bool bad,.bool lent,ud,ud,ud,ud,.bool false,ud,ud,ud,ud,ud,ud,ud,ud,ud,ud,ud,ud,ud,ud,ud,ud,ud,ud,ud,ud,ud,ud,ud,ud,ud,ud,ud,ud,ud,ud,ud,ud,ud,ud,ud,ud,ud,ud,ud,ud,ud,ud,ud,ud,ud,ud,ud,ud,ud,ud,ud] ++ #[ud,ud,ud,ud,ud,ud,ud,ud,ud,ud,ud,ud,ud,ud,ud,ud,ud,ud,ud,ud,ud,ud,ud,ud,ud,ud,ud,ud,ud,ud,ud,ud,ud,ud,ud,ud,ud,ud,ud,ud,ud,ud,ud,ud,ud,ud,ud,ud,ud,ud,ud,ud,ud,ud,ud,ud,ud,ud,ud,ud] ++ #[ud,ud,ud,ud,ud,ud,ud,ud,ud,ud,ud,ud,ud,ud,ud,ud,ud,ud]
def t8B (n z : Int) (bad lent : Bool) : Array Value:=#[.int .i64 n,.int .i64 z,.bool bad,.bool lent,ud,ud,ud,ud,.bool false,ud,ud,ud,ud,ud,ud,ud,ud,ud,ud,ud,ud,ud,.bool true,ud,ud,ud,ud,ud,ud,ud,ud,ud,ud,ud,ud,ud,ud,ud,ud,ud,ud,ud,ud,ud,ud,ud,ud,ud,ud,ud,ud,ud,ud,ud,ud,ud,ud,ud,ud,ud] ++ #[ud,ud,ud,ud,ud,ud,ud,ud,ud,ud,ud,ud,ud,ud,ud,ud,ud,ud,ud,ud,ud,ud,ud,ud,ud,ud,ud,ud,ud,ud,ud,ud,ud,ud,ud,ud,ud,ud,ud,ud,ud,ud,ud,ud,ud,ud,ud,ud,ud,ud,ud,ud,ud,ud,ud,ud,ud,ud,ud,ud] ++ #[ud,ud,ud,ud,ud,ud,ud,ud,ud,ud,ud,ud,ud,ud,ud,ud,ud,ud]
section
variable {h0 : Array Obj} {cs : List Frame} {n z : Int} {bad lent : Bool}
theorem sNs1 {T12 : Array Value} (hT : T12 = Array.replicate 76 ud) : GoW Tryz.prog true AtRel Ig (fun g w=>g = G ((base 12).at ⟨T12,[]⟩ [.code (Tryz.f12.body.getD .skip)]) (((base 8).at ⟨t8A n z bad lent,[]⟩ (.inRegion Ko [0,1] :: [.code nc8])) :: cs) /\ w.heap = h0) (fun w=>w.heap = h0) 40
   (G ((base 8).at ⟨#[.int .i64 n,.int .i64 z,.bool bad,.bool lent] ++ Array.replicate 134 ud,[]⟩ [.code (Tryz.f8.body.getD .skip)]) cs):=by
 have E:=K6 h0
 have hTs : Shut (T12 = Array.replicate 76 ud):=hT
 clear hT
 obtain ⟨bd,hbd⟩ : ∃ c,c = nc8:=⟨_,rfl⟩
 have hbd':=hbd
 simp only [nc8,Tryz.f8] at hbd'
 obtain ⟨bc,hbc⟩ : ∃ c,c = Tryz.f12.body.getD .skip:=⟨_,rfl⟩
 rw [<- hbd,<- hbc]
 simp only [Ko,Tryz.f8,Option.getD_some]
 rw [<- hbd']
 walk_nrm
 refine Bj E ?_
 refine Ar E ?_
 refine A9 E rfl rfl (by k_ne) (fun w hF K hK=>?_)
 go_simp
 refine hK _ (by simp [go_sem, *]) ?_
 clear hK K hF w
 refine Ah E ?_
 refine Bj E ?_
 refine Ay E ?_
 have hnm : (Tryz.f12.name == "runtime.NumGoroutine") = false:=by kernel_rfl
 have hbody : Tryz.f12.body = some bc:=by rw [hbc]; kernel_rfl
 refine Df E rfl rfl (by k_ne) rfl Tryz.func12 hnm hbody ?_
 rw [Tryz.ntmps12]
 clear hnm hbody hbc hbd hbd'
 refine Bp E (fun w hw=>⟨?_,hw⟩)
 rw [hTs.out]
 simp [t8A]
theorem Ar6 : after (base 8) ⟨t8A n z bad lent,[]⟩ Ko 0 [1] [.code nc8] (.bool true) = (base 8).at ⟨t8B n z bad lent,[]⟩ (.inRegion Ko [1] :: [.code nc8]):=by kernel_rfl
theorem sNs2 : GoW Tryz.prog true AtRel Ig (fun g w=>g = G ((base 8).at ⟨t8C n z bad lent,[]⟩ ([.code nc8])) cs /\ w.heap = h0) (fun w=>w.heap = h0) 40
   (G ((base 8).at ⟨t8B n z bad lent,[]⟩ (.inRegion Ko [1] :: [.code nc8])) cs):=by
 have E:=K6 h0
 obtain ⟨bd,hbd⟩ : ∃ c,c = nc8:=⟨_,rfl⟩
 rw [<- hbd]
 simp only [Ko,Tryz.f8]
 clear hbd
 unfold t8B
 simp only [List.append_toArray,List.cons_append,List.nil_append]
 refine A9 E rfl rfl (by k_ne) (fun w hF K hK=>?_)
 go_simp
 refine hK _ (by simp [go_sem, *]) ?_
 clear hK K hF w
 refine Ah E ?_
 refine Bp E (fun w hw=>⟨?_,hw⟩)
 simp [t8C]
theorem sNs3 {T : Array Value} : GoW Tryz.prog true AtRel Ig (fun g w=>g = G ((base 8).at ⟨T,[]⟩ (.inRegion nops84 ([0,1,2,3,4,5,6,7] ++ [8,9,10,11,12,13]) :: [.code nr8])) cs /\ w.heap = h0) (fun w=>w.heap = h0) 40
   (G ((base 8).at ⟨T,[]⟩ ([.code nd8])) cs):=by
 have E:=K6 h0
 obtain ⟨bd,hbd⟩ : ∃ c,c = nr8:=⟨_,rfl⟩
 have hbd':=hbd
 simp only [nr8,nd8,tl8,nc8,Tryz.f8] at hbd'
 rw [<- hbd]
 simp only [nops84,nd8,tl8,nc8,Tryz.f8]
 rw [<- hbd']
 clear hbd hbd'
 refine Bj E ?_
 refine Xa E ?_
 exact Bp E (fun w hw=>⟨rfl,hw⟩)
theorem sNs4 {T : Array Value} {g v b : Nat} (hT : F8 T bad lent g v) (h83 : T[83]? = some (.slice (some ⟨b,0,none⟩) 3 3)) : GoW Tryz.prog true AtRel Ig (fun gr w=>gr = G ((base 16).at ⟨#[.slice (some ⟨b,0,none⟩) 3 3] ++ Array.replicate 12 ud,[]⟩ [.code (Tryz.f16.body.getD .skip)]) (((base 8).at ⟨T,[]⟩ (.inRegion nops84 [8,9,10,11,12,13] :: [.code nr8])) :: cs) /\ w.heap = h0) (fun w=>w.heap = h0) 40
   (G ((base 8).at ⟨T,[]⟩ (.inRegion nops84 [8,9,10,11,12,13] :: [.code nr8])) cs):=by
 have E:=K6 h0
 obtain ⟨bd,hbd⟩ : ∃ c,c = nr8:=⟨_,rfl⟩
 obtain ⟨bc,hbc⟩ : ∃ c,c = Tryz.f16.body.getD .skip:=⟨_,rfl⟩
 rw [<- hbd,<- hbc]
 simp only [nops84,nd8,tl8,nc8,Tryz.f8]
 obtain ⟨x,rfl⟩:=U5 T hT.sz
 have e2 : x 2 = _:=Option.some.inj hT.t2
 have e3 : x 3 = _:=Option.some.inj hT.t3
 have e8 : x 8 = _:=Option.some.inj hT.t8
 have e9 : x 9 = _:=Option.some.inj hT.t9
 have e10 : x 10 = _:=Option.some.inj hT.t10
 have e11 : x 11 = _:=Option.some.inj hT.t11
 have e83 : x 83 = _:=Option.some.inj h83
 clear hT h83
 rw [e2,e3,e8,e9,e10,e11,e83]
 clear e2 e3 e8 e9 e10 e11 e83
 have hnm : (Tryz.f16.name == "runtime.NumGoroutine") = false:=by kernel_rfl
 have hbody : Tryz.f16.body = some bc:=by rw [hbc]; kernel_rfl
 refine Df E rfl rfl (by k_ne) rfl Tryz.func16 hnm hbody ?_
 rw [Tryz.ntmps16]
 clear hnm hbody hbc hbd
 walk_nrm
 exact Bp E (fun w hw=>⟨rfl,hw⟩)
theorem Ar5 {T : Array Value} {val : Value} : after (base 8) ⟨T,[]⟩ nops84 8 [9,10,11,12,13] [.code nr8] val = (base 8).at ⟨T.setIfInBounds 84 val,[]⟩ (.inRegion nops84 [9,10,11,12,13] :: [.code nr8]):=by kernel_rfl
theorem sNs5 {T : Array Value} {g v pw : Nat} (hT : F8 T bad lent g v) : GoW Tryz.prog true AtRel Ig (fun gr w=>(∃ T',gr = G ((base 8).at ⟨T',[]⟩ ([.code nr8])) cs /\ F8 T' bad lent g v /\ T'[15]? = some (pq pw 0) /\ T'[16]? = some .nilIface) /\ w.heap = h0) (fun w=>w.heap = h0) 40
   (G ((base 8).at ⟨T.setIfInBounds 84 (.tuple #[pq pw 0,.nilIface]),[]⟩ (.inRegion nops84 [9,10,11,12,13] :: [.code nr8])) cs):=by
 have E:=K6 h0
 obtain ⟨bd,hbd⟩ : ∃ c,c = nr8:=⟨_,rfl⟩
 rw [<- hbd]
 simp only [nops84,nd8,tl8,nc8,Tryz.f8]
 clear hbd
 obtain ⟨x,rfl⟩:=U5 T hT.sz
 have e2 : x 2 = _:=Option.some.inj hT.t2
 have e3 : x 3 = _:=Option.some.inj hT.t3
 have e8 : x 8 = _:=Option.some.inj hT.t8
 have e9 : x 9 = _:=Option.some.inj hT.t9
 have e10 : x 10 = _:=Option.some.inj hT.t10
 have e11 : x 11 = _:=Option.some.inj hT.t11
 clear hT 
 rw [e2,e3,e8,e9,e10,e11]
 clear e2 e3 e8 e9 e10 e11
 simp only [List.setIfInBounds_toArray,List.set_cons_zero,List.set_cons_succ]
 refine A9 E rfl rfl (by k_ne) (fun w hF K hK=>?_)
 go_simp
 refine hK _ (by simp [go_sem, *]) ?_
 clear hK K hF w
 refine A9 E rfl rfl (by k_ne) (fun w hF K hK=>?_)
 go_simp
 refine hK _ (by simp [go_sem, *]) ?_
 clear hK K hF w
 refine A9 E rfl rfl (by k_ne) (fun w hF K hK=>?_)
 go_simp
 refine hK _ (by simp [go_sem, *]) ?_
 clear hK K hF w
 refine A9 E rfl rfl (by k_ne) (fun w hF K hK=>?_)
 go_simp
 refine hK _ (by simp [go_sem, *]) ?_
 clear hK K hF w
 refine A9 E rfl rfl (by k_ne) (fun w hF K hK=>?_)
 go_simp
 refine hK _ (by simp [go_sem, *]) ?_
 clear hK K hF w
 refine Ah E ?_
 exact Bp E (fun w hw=>⟨⟨_,rfl,⟨rfl,rfl,rfl,rfl,rfl,rfl,rfl⟩,rfl,rfl⟩,hw⟩)
theorem sNs7 {k : List Item} (T : Array Value) (hT : T[8]? = some (.bool true)) : GoW Tryz.prog true AtRel Ig (fun g w=>(∃ (T : Array Value) (todo : List Item),g = G { (base 8).at ⟨T,[]⟩ todo with mode:=.returning } cs /\ T[8]? = some (.bool true)) /\ w.heap = h0) (fun w=>w.heap = h0) 5
   (G ((base 8).at ⟨T,[]⟩ (.code .ret :: k)) cs):=by
 have E0:=K6 h0
 refine Di E0 ?_
 exact Bp E0 (fun w hw=>⟨⟨_,_,rfl,hT⟩,hw⟩)
end
end Go.Mark
