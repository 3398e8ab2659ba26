import Derived.Test.YtbephahokhnccaaGreatDoorXK17toK38
set_option linter.unusedSectionVars false
set_option maxRecDepth 100000
set_option maxHeartbeats 8000000
namespace Go.Mark
open Go.RowKit Go.Proofs
variable [BaseB]
section
attribute [local go_sem] wd
theorem Apw (e : Addr) (W : World) (hg : W.cell? ⟨4,0,none⟩ = some (.iface 355 (.agg #[pq 11 36]))) :
  Calls TryQ.prog 222 #[.iface 299 (.pointer (some e)),.iface 301 (pq W.heap.size 0)] (W.alloc (.cells #[.pointer none] 299)) fun ev w'=>ev = .returned (.bool true) /\ Below W.heap.size W w' /\ w'.heap[W.heap.size]? = ob #[.pointer (some e)] 299:=by
 have hlt : 4 < W.heap.size:=by
  rcases Nat.lt_or_ge 4 W.heap.size with h | h
  ·exact h
  ·simp [World.cell?,Array.getElem?_eq_none h] at hg
 have hn:=Al W (.cells #[.pointer none] 299)
 have hb : Below W.heap.size W (W.alloc (.cells #[.pointer none] 299)):=ba
 refine (Ar3 e ⟨W.heap.size,0,none⟩ (.pointer none) (W.alloc (.cells #[.pointer none] 299)) ((hb.cell (p:=⟨4,0,none⟩) hlt).trans hg) (by rw [Ad hn 0]; rfl) (Ai hn 0)).mono ?_
 rintro ev w' ⟨rfl,rfl⟩
 refine ⟨rfl,((((hb.alloc (by simp) _).alloc (by simp; omega) _).alloc (by simp; omega) _).alloc (by simp; omega) _).setCell (Nat.le_refl _) _,?_⟩
 exact Av (i:=0) (Aw (Aw (Aw (Aw hn))))
theorem Akj {W : World} {l mc fb : Nat} {lg : SV} {back depth self place bl bb : Int} {why : Value} {bg : Nat} {Φ : World -> Prop}
  (hm : W.heap[mc]? = ob (Aj l lg back depth) 165)
  (hf : W.heap[fb]? = ob #[.int .i64 self,.int .i64 place,why,.int .i64 bl,.int .i64 (bg : Int),.int .i64 bb] 303)
  (hg : W.cell? ⟨4,0,none⟩ = some (.iface 355 (.agg #[pq 11 36])))
  (hbg : bg <= lg.n) (hcap : lg.n <= lg.c)
  (hu : ∀ w,Below W.heap.size W w -> Calls TryQ.prog 223 #[pq l 0,.int .i64 bl] w fun e w'=>e = .returned (.tuple #[]) /\ Φ w' /\ ∃ B,Pres B [262] w w' /\ mc ∉ B /\ fb ∉ B /\ W.heap.size ∉ B) :
  Calls TryQ.prog 177 #[pq mc 0,.iface 299 (pq fb 0)] W fun e w'=>e = .returned (.tuple #[]) /\ ∃ w1,Φ w1 /\ w'.heap[mc]? = ob (Aj l ⟨lg.a,bg,lg.c⟩ bb depth) 165 /\ Pres [mc] [] w1 w':=by
 have has:=Apw ⟨fb,0,none⟩ W hg
 have hmn:=Aa hm
 have hfn:=Aa hf
 have hfm : fb ≠ mc:=Bc hf hm (by decide)
 have hbc : (bg : Int) <= (lg.c : Int):=by omega
 clear hg
 go_enter TryQ.func177,Tryz.ntmps177
 go_wp2_with fail
 refine has.mono ?_
 rintro e w1 ⟨rfl,hb1,ht1⟩
 clear has
 have hm1:=(hb1.block _ hmn).trans hm
 have hf1:=(hb1.block _ hfn).trans hf
 have hbd : Below W.heap.size W w1.drew:=hb1.drew
 go_wp2_with fail
 refine rq (fun V=>V.heap[mc]? = ob (Aj l lg back depth) 165 /\ V.heap[W.heap.size]? = ob #[pq fb 0] 299 /\ V.heap[fb]? = ob #[.int .i64 self,.int .i64 place,why,.int .i64 bl,.int .i64 (bg : Int),.int .i64 bb] 303) ⟨hm1,ht1,hf1⟩ fun hH=>?_
 refine tx 0 9 (pq mc 0) hH ?_
 refine tx 1 10 (pq mc 0) hH ?_
 refine tx 2 11 (pq mc 0) hH ?_
 refine tv 3 12 (pq l 0) (fun _ hW=>bq hW.1 0 rfl) hH ?_
 refine tv 4 13 (pq fb 0) (fun _ hW=>bq hW.2.1 0 rfl) hH ?_
 refine tx 5 14 (pq fb 0) hH ?_
 refine tx 6 15 (pq fb 3) hH ?_
 refine tx 7 16 (pq fb 3) hH ?_
 refine tv 8 17 (.int .i64 bl) (fun _ hW=>bq hW.2.2 3 rfl) hH ?_
 refine r1 9 fun K hK=>?_
 go_simp
 refine (hu _ hbd).mono ?_
 rintro e W2 ⟨rfl,hΦ,B,hpB,hb1,hb2,hb3⟩
 go_wp2_with fail
 have hm2 : W2.heap[mc]? = _:=hpB.obj hH.1 (by show (165 : Nat) ∉ [262]; decide) hb1
 have ht2 : W2.heap[W.heap.size]? = _:=hpB.obj hH.2.1 (by show (299 : Nat) ∉ [262]; decide) hb3
 have hf2 : W2.heap[fb]? = _:=hpB.obj hH.2.2 (by show (303 : Nat) ∉ [262]; decide) hb2
 refine hK.out _ _ ⟨hm2,ht2,hf2⟩ fun hH=>?_
 clear hK K
 refine dn ?_
 clear hH
 have m1:=bq hm2 1 rfl
 have z1:=Ai hm2 1
 have hml:=Aa hm2
 go_wp2_with fail
 refine rq (fun V=>V.heap[W.heap.size]? = ob #[pq fb 0] 299 /\ V.heap[fb]? = ob #[.int .i64 self,.int .i64 place,why,.int .i64 bl,.int .i64 (bg : Int),.int .i64 bb] 303) ⟨ht2,hf2⟩ fun hH=>?_
 refine tx 0 19 (pq mc 0) hH ?_
 refine tx 1 20 (pq mc 0) hH ?_
 refine tx 2 21 (pq mc 0) hH ?_
 refine tx 3 22 (pq mc 1) hH ?_
 refine tv 5 24 (pq fb 0) (fun _ hW=>bq hW.1 0 rfl) hH ?_
 refine tx 6 25 (pq fb 0) hH ?_
 refine tx 7 26 (pq fb 3) hH ?_
 refine tx 8 27 (pq fb 4) hH ?_
 refine tv 9 28 (.int .i64 (bg : Int)) (fun _ hW=>bq hW.2 4 rfl) hH ?_
 refine r1 4 fun K hK=>?_
 go_simp
 refine hK.out _ _ hH fun hH=>?_
 clear hK K
 refine r1 10 fun K hK=>?_
 go_simp
 refine hK.out _ _ hH fun hH=>?_
 clear hK K
 refine r1 11 fun K hK=>?_
 go_simp
 refine hK.out _ _ hH fun hH=>?_
 clear hK K
 refine r1 12 fun K hK=>?_
 go_simp
 refine hK.out _ _ hH fun hH=>?_
 clear hK K
 refine r1 13 fun K hK=>?_
 go_simp
 refine hK.out _ _ ⟨Ae hH.1 (by omega),Ae hH.2 hfm⟩ fun hH=>?_
 clear hK K
 refine dn ?_
 have hm3 : (W2.setCell ⟨mc,1,none⟩ (.slice lg.a bg lg.c)).drew.heap[mc]? = ob (Aj l ⟨lg.a,bg,lg.c⟩ back depth) 165:=Av (i:=1) hm2
 have hp3 : Pres [mc] [] W2 (W2.setCell ⟨mc,1,none⟩ (.slice lg.a bg lg.c)).drew:=(Pres.setCell W2 mc 1 _).trans (.of_below (Below.refl _ _).drew _ _)
 generalize (W2.setCell ⟨mc,1,none⟩ (.slice lg.a bg lg.c)).drew = W3 at hH hm3 hp3 ⊢
 have q2:=bq hm3 2 rfl
 have y2:=Ai hm3 2
 have t0:=bq hH.1 0 rfl
 have b5:=bq hH.2 5 rfl
 clear m1 z1
 go_wp2
 simp [bodyPost,results,Tryz.results177,go_sem]
 exact ⟨W2,hΦ,Av (i:=2) hm3,hp3.trans (Pres.setCell W3 mc 2 _)⟩
theorem Aqo (v : Value) (w : World) : (Instr.typeAssert (.iface 217 v) 116 217 true).run TryQ.prog w = .ok (.tuple #[v,.bool true]) w:=by kernel_rfl
theorem Ad7 (v : Value) (w : World) : (Instr.typeAssert (.iface 174 v) 116 217 true).run TryQ.prog w = .ok (.tuple #[.agg #[.int .i64 0,.nilIface],.bool false]) w:=by kernel_rfl
theorem Hr (mc : Nat) (v : Value) (W : World) :
  Calls TryQ.prog 137 #[pq mc 0,.iface 174 v] W fun e w'=>e = .returned (.iface 174 v) /\ w' = W:=by
 have h1:=Ad7
 go_enter TryQ.func137,Tryz.ntmps137
 go_wp2
 go_ret
 exact ⟨rfl,rfl⟩
theorem Xe {W : World} {mc : Nat} {g : Int} {ev : Value} {et : TypeId} {Φ : World -> Prop}
  (hu : ∀ w,Below W.heap.size W w -> Calls TryQ.prog 177 #[pq mc 0,.iface et ev] w fun e w'=>e = .returned (.tuple #[]) /\ Φ w') :
  Calls TryQ.prog 137 #[pq mc 0,.iface 217 (.agg #[.int .i64 g,.iface et ev])] W fun e w'=>e = .returned (.iface 217 (.agg #[.int .i64 g,.iface et ev])) /\ Φ w':=by
 have h1:=Aqo
 have hb : Below W.heap.size W (W.alloc (.cells #[.int .i64 g,.iface et ev] 217)):=ba
 have hu1:=hu _ hb
 clear hu
 go_enter TryQ.func137,Tryz.ntmps137
 go_wp2_with fail
 refine hu1.mono ?_
 rintro e w1 ⟨rfl,hΦ⟩
 clear hu1
 go_wp2
 go_ret
 exact ⟨rfl,hΦ⟩
end
section
attribute [local go_sem] wd
def Eb (caller dst : Int) (val : Nat) (gas : Int) (data : SV) : Array Value:=#[.int .i64 caller,.int .i64 dst,.int .u64 (lim val 0),.int .u64 (lim val 1),.int .u64 (lim val 2),.int .u64 (lim val 3),.int .i64 gas,.slice data.a data.n data.c]
section
variable {W : World} {l m mc : Nat} {dm : Dm} {cr : Int} {L : AL} {J : List Value} {lg : SV} {back depth : Int}
theorem call92 (h : LG W l m dm cr L J) (hm : W.heap[mc]? = ob (Aj l lg back depth) 165) (hdp : depth ≠ 64) {q p : Int × Nat × Ac} (hq : q ∈ L) (hp : p ∈ L) (hne : q.2.1 ≠ p.2.1) (x : Nat) (hx : x < M) (hle : x <= q.2.2.bal) (gas : Int) (data : SV) (hJ : J.length + 1 < 1000000) {Ψ : Value -> World -> Prop}
  (hrun : ∀ w f,w.heap[f]? = ob (frC ⟨mc,(J.length : Int),(lg.n : Int),back,p.2.2.code,p.2.2.mark,p.1,q.1,x,data,gas,0,0⟩ ⟨none,0,0⟩) 225 -> W.heap.size <= f -> w.heap[mc]? = ob (Aj l lg back depth) 165 -> LG w l m dm cr (Ce (Ce L q.2.1 { q.2.2 with bal:=(q.2.2.bal + M - x) % M }) p.2.1 { p.2.2 with bal:=(p.2.2.bal + x) % M }) (J ++ [Hg q.2.1 q.2.2.bal] ++ [Hg p.2.1 p.2.2.bal]) -> Pres [l,q.2.1,p.2.1] [262] W w ->
   Calls TryQ.prog 139 #[pq mc 0,pq f 0] w fun e w'=>∃ t v,e = .returned (.iface t v) /\ Calls TryQ.prog 137 #[pq mc 0,.iface t v] w' fun e w'=>∃ t v,e = .returned (.iface t v) /\ Ψ (.iface t v) w') :
  Calls TryQ.prog 92 #[pq mc 0,.agg (Eb q.1 p.1 x gas data)] W fun e w'=>∃ t v,e = .returned (.iface t v) /\ Ψ (.iface t v) w':=by
 have hb0 : Below W.heap.size W (W.alloc (.cells (Eb q.1 p.1 x gas data) 172)):=ba
 have hc0:=Al W (.cells (Eb q.1 p.1 x gas data) 172)
 have hmn:=Aa hm
 have hln:=h.cell0.1
 have hqn:=Aa (h.acc q hq)
 have hpn:=Aa (h.acc p hp)
 have hL0:=h.below hb0
 have hmay:=Lx hL0 (Aw (p:=.cells (Eb q.1 p.1 x gas data) 172) hm) hdp hq x hx hle
 have hrs : Shut (∀ w f,w.heap[f]? = ob (frC ⟨mc,(J.length : Int),(lg.n : Int),back,p.2.2.code,p.2.2.mark,p.1,q.1,x,data,gas,0,0⟩ ⟨none,0,0⟩) 225 -> W.heap.size <= f -> w.heap[mc]? = ob (Aj l lg back depth) 165 -> LG w l m dm cr (Ce (Ce L q.2.1 { q.2.2 with bal:=(q.2.2.bal + M - x) % M }) p.2.1 { p.2.2 with bal:=(p.2.2.bal + x) % M }) (J ++ [Hg q.2.1 q.2.2.bal] ++ [Hg p.2.1 p.2.2.bal]) -> Pres [l,q.2.1,p.2.1] [262] W w ->
   Calls TryQ.prog 139 #[pq mc 0,pq f 0] w fun e w'=>∃ t v,e = .returned (.iface t v) /\ Calls TryQ.prog 137 #[pq mc 0,.iface t v] w' fun e w'=>∃ t v,e = .returned (.iface t v) /\ Ψ (.iface t v) w'):=hrun
 clear hrun
 go_enter TryQ.func92,Tryz.ntmps92
 unfold Eb at hb0 hc0 hL0 hmay ⊢
 go_wp2_with fail
 refine hmay.mono ?_
 rintro e w1 ⟨rfl,hb1⟩
 clear hmay
 have hL1:=hL0.below hb1
 have hc1:=bk hb1 hc0
 have hm1 : w1.heap[mc]? = _:=(hb1.block _ (by simp; omega)).trans ((hb0.block _ hmn).trans hm)
 have hbA:=hb0.trans (hb1.mono hb0.size)
 have c0:=bq hc1 0 rfl
 have c1:=bq hc1 1 rfl
 have c2:=bq hc1 2 rfl
 have c3:=bq hc1 3 rfl
 have c4:=bq hc1 4 rfl
 have c5:=bq hc1 5 rfl
 have c6:=bq hc1 6 rfl
 have c7:=bq hc1 7 rfl
 have hbg:=Yt hL1 hm1 p.1 q.1 x data gas
 unfold fr0 at hbg
 have hcl:=Aa hc1
 go_wp2_with fail
 refine hbg.mono ?_
 rintro e w2 ⟨rfl,hf2,hb2⟩
 clear hbg c0 c1 c2 c3 c4 c5 c6 c7
 have hL2:=hL1.below hb2
 have hc2 : w2.heap[W.heap.size]? = ob (Eb q.1 p.1 x gas data) 172:=(hb2.block _ hcl).trans hc1
 have hm2 : w2.heap[mc]? = ob (Aj l lg back depth) 165:=(hb2.block _ (by have:=hbA.size; omega)).trans hm1
 have hbB:=hbA.trans (hb2.mono hbA.size)
 have hfl : W.heap.size < w1.heap.size:=hcl
 generalize w1.heap.size = f at hf2 hfl ⊢
 clear hc1 hm1
 go_wp2_with fail
 refine rq (fun V=>V.heap[mc]? = ob (Aj l lg back depth) 165 /\ V.heap[W.heap.size]? = ob (Eb q.1 p.1 x gas data) 172) ⟨hm2,hc2⟩ fun hH=>?_
 refine tx 0 34 (pq f 0) hH ?_
 refine tx 2 36 (pq mc 0) hH ?_
 refine tx 3 37 (pq mc 0) hH ?_
 refine tx 4 38 (pq mc 0) hH ?_
 refine tv 5 39 (pq l 0) (fun _ hW=>bq hW.1 0 rfl) hH ?_
 refine tx 6 40 (pq W.heap.size 1) hH ?_
 refine tv 7 41 (.int .i64 p.1) (fun _ hW=>bq hW.2 1 rfl) hH ?_
 refine tx 1 35 (pq f 0) hH ?_
 refine r1 8 fun K hK=>?_
 go_simp
 refine (Adt (hL2.below (Below.refl _ _).drew) hp).mono ?_
 rintro e W3 ⟨rfl,hb3⟩
 go_wp2_with fail
 refine hK.out _ _ ⟨(hb3.block _ (Aa hH.1)).trans hH.1,(hb3.block _ (Aa hH.2)).trans hH.2⟩ fun hH=>?_
 clear hK K
 refine tx 9 33 (.tuple #[.string p.2.2.code,.slice p.2.2.mark.a p.2.2.mark.n p.2.2.mark.c]) hH ?_
 refine tx 10 43 (.string p.2.2.code) hH ?_
 refine tx 11 44 (.slice p.2.2.mark.a p.2.2.mark.n p.2.2.mark.c) hH ?_
 refine tx 12 45 (pq f 0) hH ?_
 refine tx 13 46 (pq f 4) hH ?_
 have hf3:=bk hb3 hf2
 have hfm:=Bc hH.1 hf3 (by decide)
 have hfc:=Bc hH.2 hf3 (by decide)
 have g4:=bq hf3 4 rfl
 have g5:=bq hf3 5 rfl
 have z4:=Ai hf3 4
 have z5:=Ai hf3 5
 refine r1 14 fun K hK=>?_
 go_simp
 refine hK.out _ _ ⟨Ae hH.1 hfm,Ae hH.2 hfc⟩ fun hH=>?_
 clear hK K
 refine tx 15 47 (pq f 0) hH ?_
 refine tx 16 48 (pq f 5) hH ?_
 refine r1 17 fun K hK=>?_
 go_simp
 refine hK.out _ _ ⟨Ae hH.1 hfm,Ae hH.2 hfc⟩ fun hH=>?_
 clear hK K
 refine dn ?_
 have hf4 : ((W3.setCell ⟨f,4,none⟩ (.string p.2.2.code)).setCell ⟨f,5,none⟩ (.slice p.2.2.mark.a p.2.2.mark.n p.2.2.mark.c)).heap[f]? = ob (frC ⟨mc,(J.length : Int),(lg.n : Int),back,p.2.2.code,p.2.2.mark,p.1,q.1,x,data,gas,0,0⟩ ⟨none,0,0⟩) 225:=Av (i:=5) (Av (i:=4) hf3)
 have hb3A:=hbB.trans ((Below.refl _ w2).drew.trans hb3 |>.mono hbB.size)
 have hbC : Below W.heap.size W _:=(hb3A.setCell (p:=⟨f,4,none⟩) (Nat.le_of_lt hfl) (.string p.2.2.code)).setCell (p:=⟨f,5,none⟩) (Nat.le_of_lt hfl) (.slice p.2.2.mark.a p.2.2.mark.n p.2.2.mark.c)
 generalize (W3.setCell ⟨f,4,none⟩ (.string p.2.2.code)).setCell ⟨f,5,none⟩ (.slice p.2.2.mark.a p.2.2.mark.n p.2.2.mark.c) = W4 at hH hf4 hbC ⊢
 have hL4:=h.below hbC
 clear g4 g5 z4 z5 hf3 hb3 hb3A
 go_wp2_with fail
 refine rq (fun V=>V.heap[mc]? = ob (Aj l lg back depth) 165 /\ V.heap[W.heap.size]? = ob (Eb q.1 p.1 x gas data) 172) hH fun hH=>?_
 refine tx 0 49 (pq mc 0) hH ?_
 refine tx 1 50 (pq mc 0) hH ?_
 refine tx 2 51 (pq mc 0) hH ?_
 refine tv 3 52 (pq l 0) (fun _ hW=>bq hW.1 0 rfl) hH ?_
 refine tx 4 53 (pq W.heap.size 0) hH ?_
 refine tv 5 54 (.int .i64 q.1) (fun _ hW=>bq hW.2 0 rfl) hH ?_
 refine tx 6 55 (pq W.heap.size 1) hH ?_
 refine tv 7 56 (.int .i64 p.1) (fun _ hW=>bq hW.2 1 rfl) hH ?_
 refine tx 8 57 (pq W.heap.size 2) hH ?_
 refine tv 9 58 (wd x) (fun _ hW=>aq (bq hW.2 2 rfl) (aq (bq hW.2 3 rfl) (aq (bq hW.2 4 rfl) (bq hW.2 5 rfl)))) hH ?_
 refine r1 10 fun K hK=>?_
 go_simp
 refine (Akv (hL4.below (Below.refl _ _).drew) hq hp hne x hx hJ).mono ?_
 rintro e W5 ⟨rfl,hL5,hp5⟩
 go_wp2_with fail
 have hm5 : W5.heap[mc]? = _:=hp5.obj hH.1 (by show (165 : Nat) ∉ [262]; decide) (by have hj:=(h.below hbC).lj.ex; obtain ⟨jv,hj,_⟩:=hj; have e1:=Bc hH.1 hj (by decide); have e2:=Bc hH.1 (hL4.acc q hq) (by decide); have e3:=Bc hH.1 (hL4.acc p hp) (by decide); simp only [List.mem_cons,List.not_mem_nil,or_false,not_or]; exact ⟨e1,e2,e3⟩)
 refine hK.out _ _ ⟨hm5,hp5.obj hH.2 (by show (172 : Nat) ∉ [262]; decide) (by simp; omega)⟩ fun hH=>?_
 clear hK K
 refine dn ?_
 have hf5 : W5.heap[f]? = _:=hp5.obj hf4 (by show (225 : Nat) ∉ [262]; decide) (by simp; omega)
 have hpA : Pres [l,q.2.1,p.2.1] [262] W W5:=Pres.trans (.of_below hbC _ _) (Pres.trans (.of_below (Below.refl _ _).drew _ _) hp5)
 have hr1:=hrs.out W5 f hf5 (Nat.le_of_lt hfl) hm5 hL5 hpA
 clear hrs
 go_wp2_with fail
 refine hr1.mono ?_
 rintro e w6 ⟨t,v,rfl,hcon⟩
 clear hr1
 go_wp2_with fail
 refine hcon.mono ?_
 rintro e w7 ⟨t,v,rfl,hΨ⟩
 clear hcon
 go_wp2
 go_ret
 exact ⟨t,v,rfl,hΨ⟩
end
end
section
attribute [local go_sem] wd
end
section
attribute [local go_sem] wd
theorem Adr {W : World} {f : Nat} {F : Frm} {sv : SV} (hf : W.heap[f]? = ob (frC F sv) 225) :
  Calls TryQ.prog 263 #[pq f 0,.int .u8 0] W fun e w'=>e = .returned (.iface 174 (.agg #[.int .i64 F.gas,.string ⟨#[]⟩])) /\ Below W.heap.size W w':=by
 have hw:=Akg hf
 go_enter TryQ.func263,Tryz.ntmps263
 go_wp2_with fail
 refine hw.mono ?_
 rintro e w1 ⟨rfl,hb⟩
 go_wp2
 go_ret
 exact ⟨rfl,hb⟩
end
section
attribute [local go_sem] wd
section
variable {W : World} {l m : Nat} {dm : Dm} {cr : Int} {L : AL} {J : List Value}
theorem Aao (h : LG W l m dm cr L J) {q : Int × Nat × Ac} (hq : q ∈ L) (x : Nat) (hx : x < M) :
  Calls TryQ.prog 369 #[.agg #[pq q.2.1 0,.int .u64 (lim x 0),.int .u64 (lim x 1),.int .u64 (lim x 2),.int .u64 (lim x 3)],pq l 0] W fun e w'=>e = .returned (.tuple #[]) /\ LG w' l m dm cr (Ce L q.2.1 { q.2.2 with bal:=x }) J /\ Pres [q.2.1] [] W w':=by
 have hbx : Below W.heap.size W (W.alloc (.cells #[pq q.2.1 0,.int .u64 (lim x 0),.int .u64 (lim x 1),.int .u64 (lim x 2),.int .u64 (lim x 3)] 212)):=ba
 have h1:=h.below hbx
 have hq1:=h1.acc q hq
 have c0:=bq hq1 0 rfl
 have c1:=bq hq1 1 rfl
 have c2:=bq hq1 2 rfl
 have c3:=bq hq1 3 rfl
 have f0:=Ai hq1 0
 have f1:=Ai hq1 1
 have f2:=Ai hq1 2
 have f3:=Ai hq1 3
 go_enter TryQ.func369,Tryz.ntmps369
 go_wp2
 simp [bodyPost,results,Tryz.results369,go_sem]
 have hp3:=Ei (W.alloc (.cells #[pq q.2.1 0,.int .u64 (lim x 0),.int .u64 (lim x 1),.int .u64 (lim x 2),.int .u64 (lim x 3)] 212)) q.2.1 (.int .u64 (lim x 0)) (.int .u64 (lim x 1)) (.int .u64 (lim x 2)) (.int .u64 (lim x 3))
 have hb3:=Cx (.int .u64 (lim x 0)) (.int .u64 (lim x 1)) (.int .u64 (lim x 2)) (.int .u64 (lim x 3)) hq1
 have hlj3:=h1.lj.pres hp3 (by decide) (fun k hk o ho=>by
  obtain rfl : k = q.2.1:=by simpa using hk
  rw [hq1] at ho
  cases ho
  exact ⟨_,_,_,rfl,by decide,by decide⟩)
 have hpA : Pres [q.2.1] [] W _:=Pres.trans (.of_below hbx _ _) hp3
 exact ⟨h.set hq (a:={ q.2.2 with bal:=x }) hlj3 hb3 (hpA.mono (fun k _ hk=>by simp at hk; simp [hk]) (fun t ht=>ht)) (by simp) ⟨rfl,rfl⟩ hx,hpA⟩
end
end
section
attribute [local go_sem] wd
theorem step_end {W : World} {f : Nat} {F : Frm} {sv : SV} (hf : W.heap[f]? = ob (frC F sv) 225) (i len g : Int)
  (hin : ∀ w : World,w.heap[f]? = ob (frC F sv) 225 -> Calls TryQ.prog 261 #[pq f 0] w fun e w'=>e = .returned (.int .u8 i) /\ Below w.heap.size w w')
  (hpay : ∀ w : World,w.heap[f]? = ob (frC F sv) 225 -> Calls TryQ.prog 262 #[pq f 0,.int .u8 i] w fun e w'=>e = .returned .nilIface /\ w'.heap[f]? = ob (frC { F with gas:=F.gas - g } sv) 225 /\ Pres [f] [] w w')
  (hlen : ∀ w,Calls TryQ.prog 147 #[.int .u8 i] w fun e w'=>e = .returned (.int .i64 len) /\ w' = w)
  (hpl : 0 <= F.place) (hpl' : F.place < 1000000) (hl0 : 0 <= len) (hl1 : len < 100) {vt : TypeId} {vv : Value}
  (hdo : ∀ w : World,w.heap[f]? = ob (frC { F with gas:=F.gas - g,next:=F.place + len } sv) 225 -> Calls TryQ.prog 263 #[pq f 0,.int .u8 i] w fun e w'=>e = .returned (.iface vt vv) /\ Below w.heap.size w w') :
  Calls TryQ.prog 224 #[pq f 0] W fun e w'=>e = .returned (.iface vt vv) /\ Pres [f] [] W w':=by
 have hwl : IntKind.i64.wrap (F.place + len) = F.place + len:=IntWalk.i64_in _ ⟨by omega,by omega⟩
 go_enter TryQ.func224,Tryz.ntmps224
 go_wp2_with fail
 refine (hin W hf).mono ?_
 rintro e w1 ⟨rfl,hb1⟩
 have hf1:=bk hb1 hf
 clear hin
 go_wp2_with fail
 refine (hpay w1 hf1).mono ?_
 rintro e w2 ⟨rfl,hf2,hp2⟩
 clear hpay
 have c16:=bq hf2 16 rfl
 have c17:=bq hf2 17 rfl
 have f17:=Ai hf2 17
 go_wp2_with fail
 refine rq (fun V=>V.cell? ⟨f,16,none⟩ = some (.int .i64 F.place)) c16 fun hH=>?_
 refine tx 0 16 (pq f 0) hH ?_
 refine tx 1 17 (pq f 0) hH ?_
 refine tx 2 18 (pq f 0) hH ?_
 refine tx 3 19 (pq f 16) hH ?_
 refine td (i:=4) (d:=some 20) (v:=.int .i64 F.place) rfl rfl (fun V hW=>?_) hH ?_
 ·have k0 : V.cell? ⟨f,16,none⟩ = some (.int .i64 F.place):=hW
  clear hW hH
  go_simp
 refine tx 5 21 (.int .u8 i) hH ?_
 refine r1 6 fun K hK=>?_
 go_simp
 refine (hlen _).mono ?_
 rintro e W4 ⟨rfl,hw4⟩
 subst hw4
 go_wp2_with fail
 refine hK.out _ _ hH fun hH=>?_
 clear hK K
 refine tx 7 23 (.int .i64 (F.place + len)) hH ?_
 refine tx 8 24 (pq f 0) hH ?_
 refine tx 9 25 (pq f 17) hH ?_
 refine r1 10 fun K hK=>?_
 go_simp
 refine hK.out _ _ ((Ad (Av (i:=17) (v:=.int .i64 (F.place + len)) hf2) 16).trans rfl) fun hH=>?_
 clear hK K
 refine dn ?_
 clear c16 c17 f17 hlen
 have hf3 : (w2.setCell ⟨f,17,none⟩ (.int .i64 (F.place + len))).drew.heap[f]? = ob (frC { F with gas:=F.gas - g,next:=F.place + len } sv) 225:=by
  have:=Av (i:=17) (v:=.int .i64 (F.place + len)) hf2
  rw [Yk] at this
  exact this
 have hp3 : Pres [f] [] W (w2.setCell ⟨f,17,none⟩ (.int .i64 (F.place + len))).drew:=(((Pres.of_below hb1 [f] []).trans hp2).trans (Pres.setCell w2 f 17 _)).dr
 have hdo3:=hdo _ hf3
 go_wp2_with fail
 refine hdo3.mono ?_
 rintro e w4 ⟨rfl,hb4⟩
 clear hdo hdo3
 go_wp2
 go_ret
 exact ⟨rfl,hp3.trans (.of_below hb4 _ _)⟩
end
section
attribute [local go_sem] wd
theorem Ala {W : World} {f : Nat} {F : Frm} {sv : SV} (hf : W.heap[f]? = ob (frC F sv) 225) (i t l g : Int)
  (hsh : ∀ w,Calls TryQ.prog 290 #[.int .u8 i] w fun e w'=>e = .returned (.tuple #[.agg #[.int .i64 t,.int .i64 l,.int .i64 g],.bool true]) /\ Below w.heap.size w w')
  (hto : ∀ w,Calls TryQ.prog 291 #[pq f 0,.int .u8 i] w fun e w'=>e = .returned (.tuple #[.int .i64 0,.nilIface]) /\ w' = w)
  (hex : ∀ w,Calls TryQ.prog 292 #[pq f 0,.int .u8 i] w fun e w'=>e = .returned (.int .i64 0) /\ w' = w)
  (ht : t <= sv.n) (hl0 : 0 <= l) (hl : (sv.n : Int) - t + l <= 1024) (hg0 : 0 <= g) (hg1 : g < 100000) (hgs : 0 <= F.gas) (hgs' : F.gas < 100000000) (hpay : g <= F.gas) :
  Calls TryQ.prog 262 #[pq f 0,.int .u8 i] W fun e w'=>e = .returned .nilIface /\ w'.heap[f]? = ob (frC { F with gas:=F.gas - g } sv) 225 /\ Pres [f] [] W w':=by
 have i4 : IntKind.i64.wrap (F.gas - g) = F.gas - g:=IntWalk.i64_in _ ⟨by omega,by omega⟩
 have d3 : ¬ F.gas < g:=by omega
 have d1 : ¬ (sv.n : Int) < t:=by omega
 have d2 : ¬ (1024 < (sv.n : Int) - t + l):=by omega
 have i1 : IntKind.i64.wrap ((sv.n : Int) - t) = (sv.n : Int) - t:=IntWalk.i64_in _ ⟨by omega,by omega⟩
 have i2 : IntKind.i64.wrap ((sv.n : Int) - t + l) = (sv.n : Int) - t + l:=IntWalk.i64_in _ ⟨by omega,by omega⟩
 have i3 : IntKind.i64.wrap g = g:=IntWalk.i64_in _ ⟨by omega,by omega⟩
 clear ht hl0 hl
 go_enter TryQ.func262,Tryz.ntmps262
 go_wp2_with fail
 refine (hsh _).mono ?_
 rintro e w1 ⟨rfl,hb1⟩
 clear hsh
 have hf1:=bk hb1 hf
 have hf2:=Aw (p:=.cells #[.int .i64 t,.int .i64 l,.int .i64 g] 369) hf1
 have hs2:=Al w1 (.cells #[.int .i64 t,.int .i64 l,.int .i64 g] 369)
 have hb2 : Below W.heap.size W (w1.alloc (.cells #[.int .i64 t,.int .i64 l,.int .i64 g] 369)):=hb1.trans (ba.mono hb1.size)
 go_wp2_with fail
 change Code.wp _ _ _ _ (w1.alloc (.cells #[.int .i64 t,.int .i64 l,.int .i64 g] 369))
 generalize w1.alloc (.cells #[.int .i64 t,.int .i64 l,.int .i64 g] 369) = w2 at hf2 hs2 hb2 ⊢
 refine rq (fun V=>V.heap[f]? = ob (frC F sv) 225 /\ V.heap[w1.heap.size]? = ob #[.int .i64 t,.int .i64 l,.int .i64 g] 369) ⟨hf2,hs2⟩ fun hH=>?_
 refine tx 0 18 (pq f 0) hH ?_
 refine tx 1 19 (pq f 0) hH ?_
 refine tx 2 20 (pq f 14) hH ?_
 refine tv 3 21 (.slice sv.a sv.n sv.c) (fun _ hW=>bq hW.1 14 rfl) hH ?_
 refine tx 4 22 (.int .i64 (sv.n : Int)) hH ?_
 refine tx 5 23 (pq w1.heap.size 0) hH ?_
 refine tv 6 24 (.int .i64 t) (fun _ hW=>bq hW.2 0 rfl) hH ?_
 refine tx 7 25 (.bool (decide ((sv.n : Int) < t))) hH ?_
 refine dn ?_
 go_wp2_with fail
 refine rq (fun V=>V.heap[f]? = ob (frC F sv) 225 /\ V.heap[w1.heap.size]? = ob #[.int .i64 t,.int .i64 l,.int .i64 g] 369) ⟨hf2,hs2⟩ fun hH=>?_
 refine tx 0 27 (pq f 0) hH ?_
 refine tx 1 28 (pq f 0) hH ?_
 refine tx 2 29 (pq f 14) hH ?_
 refine tv 3 30 (.slice sv.a sv.n sv.c) (fun _ hW=>bq hW.1 14 rfl) hH ?_
 refine tx 4 31 (.int .i64 (sv.n : Int)) hH ?_
 refine tx 5 32 (pq w1.heap.size 0) hH ?_
 refine tv 6 33 (.int .i64 t) (fun _ hW=>bq hW.2 0 rfl) hH ?_
 refine tx 7 34 (.int .i64 ((sv.n : Int) - t)) hH ?_
 refine tx 8 35 (pq w1.heap.size 1) hH ?_
 refine tv 9 36 (.int .i64 l) (fun _ hW=>bq hW.2 1 rfl) hH ?_
 refine tx 10 37 (.int .i64 ((sv.n : Int) - t + l)) hH ?_
 refine tx 11 38 (.bool (decide ((sv.n : Int) - t + l > 1024))) hH ?_
 refine dn ?_
 go_wp2_with fail
 refine (hto _).mono ?_
 rintro e w4 ⟨rfl,hw4⟩
 clear hto
 have hb4 : Below W.heap.size W w4:=by rw [hw4]; exact hb2.drew.drew
 replace hf2 : w4.heap[f]? = ob (frC F sv) 225:=by rw [hw4]; exact hf2
 replace hs2 : w4.heap[w1.heap.size]? = ob #[.int .i64 t,.int .i64 l,.int .i64 g] 369:=by rw [hw4]; exact hs2
 clear hw4 hb2
 go_wp2_with fail
 refine rq (fun V=>V.heap[f]? = ob (frC F sv) 225 /\ V.heap[w1.heap.size]? = ob #[.int .i64 t,.int .i64 l,.int .i64 g] 369) ⟨hf2,hs2⟩ fun hH=>?_
 refine tx 0 49 (pq w1.heap.size 2) hH ?_
 refine tv 1 50 (.int .i64 g) (fun _ hW=>bq hW.2 2 rfl) hH ?_
 refine tx 2 51 (pq f 0) hH ?_
 refine tx 3 52 (.int .u8 i) hH ?_
 refine tx 6 55 (pq f 0) hH ?_
 refine tx 7 56 (pq f 0) hH ?_
 refine tx 8 57 (pq f 15) hH ?_
 refine tv 9 58 (.slice none 0 0) (fun _ hW=>bq hW.1 15 rfl) hH ?_
 refine tx 10 59 (.int .i64 0) hH ?_
 refine r1 4 fun K hK=>?_
 go_simp
 refine (hex _).mono ?_
 rintro e W5 ⟨rfl,hw⟩
 subst hw
 go_wp2_with fail
 refine hK.out _ _ hH fun hH=>?_
 clear hK K
 refine tx 5 54 (.int .i64 g) hH ?_
 refine r1 11 fun K hK=>?_
 go_simp
 refine (Ads _).mono ?_
 rintro e W6 ⟨rfl,hw⟩
 subst hw
 go_wp2_with fail
 refine hK.out _ _ hH fun hH=>?_
 clear hK K
 refine tx 12 61 (.int .i64 g) hH ?_
 refine tx 13 9 (.int .i64 g) hH ?_
 refine dn ?_
 have c13:=bq hf2 13 rfl
 have f13:=Ai hf2 13
 go_wp2_with fail
 have hf5 : (w4.setCell ⟨f,13,none⟩ (.int .i64 (F.gas - g))).drew.heap[f]? = ob (frC { F with gas:=F.gas - g } sv) 225:=by
  have:=Av (i:=13) (v:=.int .i64 (F.gas - g)) hf2
  rw [Adl] at this
  exact this
 have hp5 : Pres [f] [] W (w4.setCell ⟨f,13,none⟩ (.int .i64 (F.gas - g))).drew:=(Pres.trans (.of_below hb4 _ _) (Pres.setCell w4 f 13 _)).dr
 refine (Adi (o:=15) hf5 rfl).mono ?_
 rintro e w6 ⟨rfl,hb6⟩
 clear c13 f13
 go_wp2
 go_ret
 exact ⟨rfl,(hb6.block _ (Aa hf5)).trans hf5,hp5.trans (.of_below hb6 _ _)⟩
end
section
attribute [local go_sem] wd
def Bl (src dst nonce : Int) (val : Nat) (gas price miner : Int) : Array Value:=#[.int .i64 src,.int .i64 dst,.int .i64 nonce,.int .u64 (lim val 0),.int .u64 (lim val 1),.int .u64 (lim val 2),.int .u64 (lim val 3),.int .i64 gas,.int .i64 price,.string ⟨#[]⟩,.int .i64 miner]
theorem Ik (g p : Nat) (hg : g < 100000000) (hp : p < 100000000) (W : World) :
  Calls TryQ.prog 50 #[.int .i64 (g : Int),.int .i64 (p : Int)] W fun e w'=>e = .returned (wd (g * p)) /\ Below W.heap.size W w':=by
 have hgp : g * p < 10000000000000000:=Nat.lt_of_lt_of_le (Nat.mul_lt_mul'' hg hp) (by decide)
 rw [Hu (g * p) (by omega)]
 have i1 : IntKind.u64.wrap (g : Int) = (g : Int):=IntWalk.u64_in _ (by omega)
 have i2 : IntKind.u64.wrap (p : Int) = (p : Int):=IntWalk.u64_in _ (by omega)
 have i3 : IntKind.u64.wrap ((g : Int) * (p : Int)) = ((g * p : Nat) : Int):=by rw [<- Int.natCast_mul]; exact IntWalk.u64_in _ (by omega)
 clear hg hp hgp
 go_enter TryQ.func50,Tryz.ntmps50
 go_wp2
 simp [bodyPost,results,Tryz.results50,go_sem]
 exact ba
theorem Mj (src dst nonce : Int) (val : Nat) (gas price miner : Int) (hd : dst ≠ 0) (W : World) :
  Calls TryQ.prog 84 #[.agg (Bl src dst nonce val gas price miner)] W fun e w'=>e = .returned (.int .i64 21000) /\ Below W.heap.size W w':=by
 unfold Bl
 go_enter TryQ.func84,Tryz.ntmps84
 go_wp2_with fail
 refine wp_loop_rounds 1 ?_
 rw [rounds_succ]
 go_wp2
 go_ret
 exact ⟨rfl,ba⟩
theorem Agk (src dst nonce : Int) (val : Nat) (gas price miner : Int) (h1 : 0 <= gas) (h2 : gas <= 1000000) (h3 : 0 <= price) (h4 : price <= 1000000) (h5 : 0 <= dst) (h6 : dst <= 4294967295) (h7 : 1 <= miner) (h8 : miner <= 4294967295) (h9 : 0 <= nonce) (W : World) :
  Calls TryQ.prog 81 #[.agg (Bl src dst nonce val gas price miner)] W fun e w'=>e = .returned (.bool true) /\ Below W.heap.size W w':=by
 unfold Bl
 go_enter TryQ.func81,Tryz.ntmps81
 go_wp2
 go_ret
 exact ⟨rfl,ba⟩
theorem Jf (g : Int) (s : ByteArray) (W : World) :
  Calls TryQ.prog 366 #[.agg #[.int .i64 g,.string s]] W fun e w'=>e = .returned (.int .i64 g) /\ Below W.heap.size W w':=by
 go_enter TryQ.func366,Tryz.ntmps366
 go_wp2
 go_ret
 exact ⟨rfl,ba⟩
end
end Go.Mark
