import Derived.Test.YtbephahokhnccaaGreatDoorXK40toK32
set_option linter.unusedSectionVars false
set_option maxRecDepth 100000
set_option maxHeartbeats 8000000
namespace Go.Mark
open Go.RowKit Go.Proofs
variable [BaseB]
section
attribute [local go_sem] wd
theorem Amh (s : ByteArray) (w : World) : ∃ c w',(convert 9 31 (.string s)).run TryQ.prog w = .ok (.slice (some ⟨w.heap.size,0,none⟩) s.size c) w' /\ Below w.heap.size w w':=by
 refine ⟨_,_,run_bytes_of_string w 9 31 5 s ((Ab 9).trans Tryz.underlying9) ((Ab 31).trans Tryz.underlying31) ((Ab 5).trans Tryz.underlying5),?_⟩
 exact (Below.refl _ _).drew.alloc (Nat.le_refl _) _
section
variable {W : World} {l m mc : Nat} {dm : Dm} {cr : Int} {L : AL} {J : List Value} {lg : SV} {back depth : Int}
theorem Adv (h : LG W l m dm cr L J) (hm : W.heap[mc]? = ob (Aj l lg back depth) 165) {q : Int × Nat × Ac} (hq : q ∈ L) (dst nonce : Int) (x g : Nat) (price miner : Int) (hd : dst ≠ 0) (hg : 21000 <= g) (hg1 : g <= 1000000) (hn : 0 <= q.2.2.nonce) (hn' : q.2.2.nonce < 4611686018427387905) (hJ : J.length < 1000000) {Φ : Ending -> World -> Prop}
  (hΦ : ∀ e w,Φ e w -> ∃ t v,e = .returned (.iface t v))
  (hcall : ∀ w data,LG w l m dm cr (Ce L q.2.1 { q.2.2 with nonce:=q.2.2.nonce + 1 }) (J ++ [Ve q.2.1 q.2.2.nonce]) -> w.heap[mc]? = ob (Aj l lg back depth) 165 -> Pres [l,q.2.1] [262] W w -> Calls TryQ.prog 92 #[pq mc 0,.agg (Eb q.1 dst x ((g : Int) - 21000) data)] w Φ) :
  Calls TryQ.prog 52 #[pq mc 0,pq l 0,.agg (Bl q.1 dst nonce x (g : Int) price miner)] W Φ:=by
 have hb0 : Below W.heap.size W (W.alloc (.cells (Bl q.1 dst nonce x (g : Int) price miner) 43)):=ba
 have ho:=Al W (.cells (Bl q.1 dst nonce x (g : Int) price miner) 43)
 have hmn:=Aa hm
 have hln:=h.cell0.1
 have hqn:=Aa (h.acc q hq)
 have i1 : IntKind.i64.wrap ((g : Int) - 21000) = (g : Int) - 21000:=IntWalk.i64_in _ ⟨by omega,by omega⟩
 have hcs : Shut (∀ w data,LG w l m dm cr (Ce L q.2.1 { q.2.2 with nonce:=q.2.2.nonce + 1 }) (J ++ [Ve q.2.1 q.2.2.nonce]) -> w.heap[mc]? = ob (Aj l lg back depth) 165 -> Pres [l,q.2.1] [262] W w -> Calls TryQ.prog 92 #[pq mc 0,.agg (Eb q.1 dst x ((g : Int) - 21000) data)] w Φ):=hcall
 have hΦs : Shut (∀ e w,Φ e w -> ∃ t v,e = .returned (.iface t v)):=hΦ
 clear hcall hΦ
 go_enter TryQ.func52,Tryz.ntmps52
 unfold Bl
 go_wp2_with fail
 change Code.wp _ _ _ _ (W.alloc (.cells (Bl q.1 dst nonce x (g : Int) price miner) 43))
 generalize W.alloc (.cells (Bl q.1 dst nonce x (g : Int) price miner) 43) = w0 at hb0 ho ⊢
 refine rq (fun V=>V.heap[W.heap.size]? = ob (Bl q.1 dst nonce x (g : Int) price miner) 43) ho fun hH=>?_
 refine tx 0 8 (pq W.heap.size 7) hH ?_
 refine tv 1 9 (.int .i64 (g : Int)) (fun _ hW=>bq hW 7 rfl) hH ?_
 refine td (i:=2) (d:=some 10) (v:=.agg (Bl q.1 dst nonce x (g : Int) price miner)) rfl rfl (fun V hW=>?_) hH ?_
 ·have k0:=bq hW 0 rfl
  have k1:=bq hW 1 rfl
  have k2:=bq hW 2 rfl
  have k3:=bq hW 3 rfl
  have k4:=bq hW 4 rfl
  have k5:=bq hW 5 rfl
  have k6:=bq hW 6 rfl
  have k7:=bq hW 7 rfl
  have k8:=bq hW 8 rfl
  have k9:=bq hW 9 rfl
  have k10:=bq hW 10 rfl
  clear hW hH
  unfold Bl
  go_simp
 refine r1 3 fun K hK=>?_
 go_simp
 refine (Mj q.1 dst nonce x g price miner hd _).mono ?_
 rintro e V1 ⟨rfl,hbn⟩
 go_wp2_with fail
 refine hK.out _ _ ((hbn.block _ (Aa hH)).trans hH) fun hH=>?_
 clear hK K
 refine r1 4 fun K hK=>?_
 go_simp
 refine hK.out _ _ hH fun hH=>?_
 clear hK K
 refine r1 5 fun K hK=>?_
 go_simp
 refine hK.out _ _ hH fun hH=>?_
 clear hK K
 refine dn ?_
 have hb1 : Below W.heap.size W V1:=hb0.trans ((Below.refl _ w0).drew.trans hbn |>.mono hb0.size)
 have hL1:=h.below hb1
 have hm1:=(hb1.block _ hmn).trans hm
 have hrs:=Ak4 hL1 hq hn hn' hJ
 have hol:=Aa hH
 have c0:=bq hH 0 rfl
 have c1:=bq hH 1 rfl
 go_wp2_with fail
 refine hrs.mono ?_
 rintro e w2 ⟨rfl,hL2,hp2⟩
 clear hrs c0 c1
 have ho2 : w2.heap[W.heap.size]? = ob (Bl q.1 dst nonce x (g : Int) price miner) 43:=hp2.obj hH (by show (43 : Nat) ∉ [262]; decide) (by simp; omega)
 have hm2 : w2.heap[mc]? = _:=hp2.obj hm1 (by show (165 : Nat) ∉ [262]; decide) (by
  obtain ⟨jv,hj,_⟩:=hL1.lj.ex
  simp only [List.mem_cons,List.not_mem_nil,or_false,not_or]
  exact ⟨Bc hm1 hj (by decide),Bc hm1 (hL1.acc q hq) (by decide)⟩)
 obtain ⟨cc,w3,hcv,hb3⟩:=Amh ⟨#[]⟩ w2
 have hol2:=Aa ho2
 have c0:=bq ho2 0 rfl
 have c1:=bq ho2 1 rfl
 have c3:=bq ho2 3 rfl
 have c4:=bq ho2 4 rfl
 have c5:=bq ho2 5 rfl
 have c6:=bq ho2 6 rfl
 have c9:=bq ho2 9 rfl
 have hpA : Pres [l,q.2.1] [262] W w3:=Pres.trans (.of_below hb1 _ _) (Pres.trans hp2 (.of_below hb3 _ _))
 have hcl:=hcs.out w3 ⟨some ⟨w2.heap.size,0,none⟩,0,cc⟩ (hL2.below hb3) ((hb3.block _ (Aa hm2)).trans hm2) hpA
 clear hcs
 unfold Eb at hcl
 go_wp2_with fail
 refine hcl.mono ?_
 intro e w4 he
 obtain ⟨t,v,rfl⟩:=hΦs.out _ _ he
 have hes : Shut (Φ (.returned (.iface t v)) w4):=he
 clear hcl he hΦs
 go_wp2
 exact hes.out
end
end
section
theorem Aof (l : Nat) (W : World) :
  Calls TryQ.prog 51 #[pq l 0] W fun e w'=>e = .returned (pq W.heap.size 0) /\ w'.heap[W.heap.size]? = ob (Aj l ⟨none,0,0⟩ 0 0) 165 /\ Below W.heap.size W w':=by
 go_enter TryQ.func51,Tryz.ntmps51
 go_wp2
 go_ret
 exact ⟨rfl,Al W _,ba⟩
section
variable {W : World} {l mc : Nat} {lg : SV} {back depth : Int}
theorem Aho (hm : W.heap[mc]? = ob (Aj l lg back depth) 165) :
  Calls TryQ.prog 55 #[pq mc 0] W fun e w'=>e = .returned (.int .i64 back) /\ w' = W:=by
 have c2:=bq hm 2 rfl
 go_enter TryQ.func55,Tryz.ntmps55
 go_wp2
 go_ret
 exact ⟨rfl,rfl⟩
theorem Aju (V : World) : (binOp BinOp.eql 32 (Value.slice none 0 0) (Value.slice none 0 0)).run TryQ.prog V = .ok (.bool true) V:=by kernel_rfl
theorem Ahe (hm : W.heap[mc]? = ob (Aj l ⟨none,0,0⟩ back depth) 165) :
  Calls TryQ.prog 93 #[pq mc 0] W fun e w'=>e = .returned (.slice none 0 0) /\ w' = W:=by
 have c1:=bq hm 1 rfl
 have hq:=Aju
 go_enter TryQ.func93,Tryz.ntmps93
 go_wp2
 go_ret
 exact ⟨rfl,rfl⟩
end
end
section
attribute [local go_sem] wd
theorem Amr (v : Value) (w : World) : (Instr.typeAssert (.iface 174 v) 116 174 true).run TryQ.prog w = .ok (.tuple #[v,.bool true]) w:=by kernel_rfl
theorem Ad8 (v : Value) (w : World) : (Instr.typeAssert (.iface 217 v) 116 174 true).run TryQ.prog w = .ok (.tuple #[.agg #[.int .i64 0,.string ⟨#[]⟩],.bool false]) w:=by kernel_rfl
def Dl (good : Bool) (gas : Int) (s : ByteArray) (lv : SV:=⟨none,0,0⟩) : Array Value:=#[.bool good,.int .i64 gas,.int .i64 0,.slice lv.a lv.n lv.c,.string s]
def LgAt (B : Nat) (lv : SV) (N : Nat) (xs : List Value) (w : World) : Prop:=lv.n = N /\ (0 < N -> ∃ lb cap c,lv = ⟨some ⟨lb,0,none⟩,N,cap⟩ /\ B <= lb /\ w.heap[lb]? = ob c 95 /\ ∀ (i : Nat) v,xs[i]? = some v -> c[i]? = some v)
theorem LgAt.mono {B B' : Nat} {lv : SV} {N : Nat} {xs : List Value} {w : World} (h : LgAt B lv N xs w) (hb : B' <= B) : LgAt B' lv N xs w:=⟨h.1,fun hN=>let ⟨lb,cap,c,h1,h2,h3⟩:=h.2 hN; ⟨lb,cap,c,h1,Nat.le_trans hb h2,h3⟩⟩
theorem LgAt.below {B : Nat} {lv : SV} {N : Nat} {xs : List Value} {w w' : World} (h : LgAt B lv N xs w) (hb : Below w.heap.size w w') : LgAt B lv N xs w':=⟨h.1,fun hN=>let ⟨lb,cap,c,h1,h2,h3,h4⟩:=h.2 hN; ⟨lb,cap,c,h1,h2,(hb.block _ (Aa h3)).trans h3,h4⟩⟩
theorem LgAt.pres {B : Nat} {lv : SV} {N : Nat} {xs : List Value} {w w' : World} {rb : Nat} {cr : Array Value} (h : LgAt B lv N xs w) (hp : Pres [rb] [] w w') (hr : w.heap[rb]? = ob cr 34) : LgAt B lv N xs w':=⟨h.1,fun hN=>let ⟨lb,cap,c,h1,h2,h3,h4⟩:=h.2 hN; ⟨lb,cap,c,h1,h2,hp.obj h3 (by simp [I8]) (by simpa using Bc h3 hr (by decide)),h4⟩⟩
theorem LgAt.none (B : Nat) (w : World) : LgAt B ⟨none,0,0⟩ 0 [] w:=⟨rfl,fun h=>absurd h (by decide)⟩
section
variable {W : World} {l mc : Nat} {back depth : Int}
theorem Tg {lg : SV} {N : Nat} {xs : List Value} (hm : W.heap[mc]? = ob (Aj l lg back depth) 165) (g : Int) (s : ByteArray)
  (hl : ∀ V,Below W.heap.size W V -> Calls TryQ.prog 93 #[pq mc 0] V fun e w'=>∃ lv : SV,e = .returned (.slice lv.a lv.n lv.c) /\ Below V.heap.size V w' /\ LgAt V.heap.size lv N xs w') :
  Calls TryQ.prog 53 #[pq mc 0,.iface 174 (.agg #[.int .i64 g,.string s])] W fun e w'=>∃ lv : SV,e = .returned (.agg (Dl true 0 s lv)) /\ Below W.heap.size W w' /\ LgAt W.heap.size lv N xs w':=by
 have hls : Shut _:=hl
 clear hl
 have h1:=Amr
 have hb1 : Below W.heap.size W ((W.alloc (.cells #[.bool false,.int .i64 0,.int .i64 0,.slice none 0 0,.string ⟨#[]⟩] 34)).alloc (.cells #[.int .i64 g,.string s] 174)):=ba.alloc (by simp) _
 have hr1 : ((W.alloc (.cells #[.bool false,.int .i64 0,.int .i64 0,.slice none 0 0,.string ⟨#[]⟩] 34)).alloc (.cells #[.int .i64 g,.string s] 174)).heap[W.heap.size]? = ob #[.bool false,.int .i64 0,.int .i64 0,.slice none 0 0,.string ⟨#[]⟩] 34:=Aw (Al W _)
 have hw1 : ((W.alloc (.cells #[.bool false,.int .i64 0,.int .i64 0,.slice none 0 0,.string ⟨#[]⟩] 34)).alloc (.cells #[.int .i64 g,.string s] 174)).heap[W.heap.size + 1]? = ob #[.int .i64 g,.string s] 174:=by
  have:=Al (W.alloc (.cells #[.bool false,.int .i64 0,.int .i64 0,.slice none 0 0,.string ⟨#[]⟩] 34)) (.cells #[.int .i64 g,.string s] 174)
  simpa using this
 have hm1 : ((W.alloc (.cells #[.bool false,.int .i64 0,.int .i64 0,.slice none 0 0,.string ⟨#[]⟩] 34)).alloc (.cells #[.int .i64 g,.string s] 174)).heap[mc]? = _:=Aw (Aw hm)
 have hmn:=Aa hm
 go_enter TryQ.func53,Tryz.ntmps53
 go_wp2_with fail
 change Code.wp _ _ _ _ ((W.alloc (.cells #[.bool false,.int .i64 0,.int .i64 0,.slice none 0 0,.string ⟨#[]⟩] 34)).alloc (.cells #[.int .i64 g,.string s] 174))
 generalize (W.alloc (.cells #[.bool false,.int .i64 0,.int .i64 0,.slice none 0 0,.string ⟨#[]⟩] 34)).alloc (.cells #[.int .i64 g,.string s] 174) = w1 at hb1 hr1 hw1 hm1 ⊢
 refine rq (fun V=>V.heap[mc]? = ob (Aj l lg back depth) 165 /\ V.heap[W.heap.size + 1]? = ob #[.int .i64 g,.string s] 174) ⟨hm1,hw1⟩ fun hH=>?_
 refine tx 0 13 (pq mc 0) hH ?_
 refine tx 2 15 (pq (W.heap.size + 1) 1) hH ?_
 refine tv 3 16 (.string s) (fun _ hW=>bq hW.2 1 rfl) hH ?_
 refine r1 1 fun K hK=>?_
 go_simp
 refine (hls.out _ hb1.drew).mono ?_
 rintro e V1 ⟨lv,rfl,hbl,hlv⟩
 have hrV : V1.heap[W.heap.size]? = _:=bk hbl hr1
 have hbV : Below W.heap.size W V1:=hb1.drew.trans (hbl.mono hb1.size)
 have hmV:=bk hbl hm1
 have hwV:=bk hbl hw1
 have hlW : LgAt W.heap.size lv N xs V1:=hlv.mono hb1.size
 go_wp2_with fail
 refine hK.out _ _ ⟨(hbl.block _ (Aa hH.1)).trans hH.1,(hbl.block _ (Aa hH.2)).trans hH.2⟩ fun hH=>?_
 clear hK K hbl hlv hls
 refine r1 4 fun K hK=>?_
 go_simp
 refine hK.out _ _ hH fun hH=>?_
 clear hK K
 have e0:=bq hrV 0 rfl
 have z0:=Ai hrV 0
 have e1:=bq hrV 1 rfl
 have z1:=Ai hrV 1
 have e2:=bq hrV 2 rfl
 have z2:=Ai hrV 2
 have e3:=bq hrV 3 rfl
 have z3:=Ai hrV 3
 have e4:=bq hrV 4 rfl
 have z4:=Ai hrV 4
 refine r1 5 fun K hK=>?_
 go_simp
 have hrm : mc ≠ W.heap.size:=by omega
 refine hK.out _ _ ⟨Ae (Ae (Ae (Ae (Ae hmV hrm) hrm) hrm) hrm) hrm,Ae (Ae (Ae (Ae (Ae hwV (by omega)) (by omega)) (by omega)) (by omega)) (by omega)⟩ fun hH=>?_
 clear hK K
 refine dn ?_
 have hr2:=Av (i:=4) (v:=.string s) (Av (i:=3) (v:=.slice lv.a lv.n lv.c) (Av (i:=2) (v:=.int .i64 0) (Av (i:=1) (v:=.int .i64 0) (Av (i:=0) (v:=.bool true) hrV))))
 have hb2:=((((hbV.setCell (p:=⟨W.heap.size,0,none⟩) (by exact Nat.le_refl _) (.bool true)).setCell (p:=⟨W.heap.size,1,none⟩) (by exact Nat.le_refl _) (.int .i64 0)).setCell (p:=⟨W.heap.size,2,none⟩) (by exact Nat.le_refl _) (.int .i64 0)).setCell (p:=⟨W.heap.size,3,none⟩) (by exact Nat.le_refl _) (.slice lv.a lv.n lv.c)).setCell (p:=⟨W.heap.size,4,none⟩) (by exact Nat.le_refl _) (.string s)
 have hp2 : Pres [W.heap.size] [] V1 (((((V1.setCell ⟨W.heap.size,0,none⟩ (.bool true)).setCell ⟨W.heap.size,1,none⟩ (.int .i64 0)).setCell ⟨W.heap.size,2,none⟩ (.int .i64 0)).setCell ⟨W.heap.size,3,none⟩ (.slice lv.a lv.n lv.c)).setCell ⟨W.heap.size,4,none⟩ (.string s)):=((((Pres.setCell V1 W.heap.size 0 _).trans (Pres.setCell _ W.heap.size 1 _)).trans (Pres.setCell _ W.heap.size 2 _)).trans (Pres.setCell _ W.heap.size 3 _)).trans (Pres.setCell _ W.heap.size 4 _)
 have hl2:=hlW.pres hp2 hrV
 clear hp2
 generalize ((((V1.setCell ⟨W.heap.size,0,none⟩ (.bool true)).setCell ⟨W.heap.size,1,none⟩ (.int .i64 0)).setCell ⟨W.heap.size,2,none⟩ (.int .i64 0)).setCell ⟨W.heap.size,3,none⟩ (.slice lv.a lv.n lv.c)).setCell ⟨W.heap.size,4,none⟩ (.string s) = w5 at hr2 hb2 hl2 hH ⊢
 clear e0 e1 e2 e3 e4
 have e0:=Ad hr2 0
 have e1:=Ad hr2 1
 have e2:=Ad hr2 2
 have e3:=Ad hr2 3
 have e4:=Ad hr2 4
 simp only [List.getElem?_toArray,List.getElem?_cons_zero,List.getElem?_cons_succ,List.setIfInBounds_toArray,List.set_cons_zero,List.set_cons_succ] at e0 e1 e2 e3 e4
 go_wp2
 simp [bodyPost,results,Tryz.results53,go_sem,e0,e1,e2,e3,e4]
 exact ⟨lv,rfl,hb2,hl2⟩
end
end
section
attribute [local go_sem] wd
structure Rs where
 good : Bool
 s : ByteArray
 left : Int
 back : Int
 k : Int
 N : Nat
 xs : List Value
def Akd (S : World -> Prop) : Prop:=∀ w w',S w -> Below w.heap.size w w' -> S w'
def Kp (B : Nat) (w w' : World) : Prop:=w.heap.size <= w'.heap.size /\ ∀ (k : Nat) (c : Array Value) (t : TypeId),B <= k -> (t = 43 \/ t = 34) -> w.heap[k]? = ob c t -> w'.heap[k]? = ob c t
theorem Kp.pres {B : Nat} {w w' : World} {X : List Nat} {T : List TypeId} (h : Pres X T w w') (hX : ∀ k ∈ X,k < B) (h43 : 43 ∉ T) (h34 : 34 ∉ T) : Kp B w w' :=
 ⟨h.size,fun k c t hk ht h1=>h.obj h1 (by rcases ht with rfl | rfl; exact h43; exact h34) (fun e=>by have:=hX k e; omega)⟩
def Kq (B : Nat) (w w' : World) : Prop:=Kp B w w' /\ ∀ (k : Nat) (c : Array Value),B <= k -> w.heap[k]? = ob c 95 -> w'.heap[k]? = ob c 95
theorem Kq.pres {B : Nat} {w w' : World} {X : List Nat} {T : List TypeId} (h : Pres X T w w') (hX : ∀ k ∈ X,k < B) (h43 : 43 ∉ T) (h34 : 34 ∉ T) (h95 : 95 ∉ T) : Kq B w w':=⟨Kp.pres h hX h43 h34,fun k c hk h1=>h.obj h1 h95 (fun e=>by have:=hX k e; omega)⟩
theorem LgAt.kq {B B' : Nat} {lv : SV} {N : Nat} {xs : List Value} {w w' : World} (h : LgAt B lv N xs w) (hk : ∀ (k : Nat) (c : Array Value),B' <= k -> w.heap[k]? = ob c 95 -> w'.heap[k]? = ob c 95) (hB : B' <= B) : LgAt B lv N xs w':=⟨h.1,fun hN=>let ⟨lb,cap,c,h1,h2,h3,h4⟩:=h.2 hN; ⟨lb,cap,c,h1,h2,hk _ _ (Nat.le_trans hB h2) h3,h4⟩⟩
theorem Kp.trans {B : Nat} {w v u : World} (h : Kp B w v) (h' : Kp B v u) : Kp B w u:=⟨Nat.le_trans h.1 h'.1,fun k c t hk ht h1=>h'.2 k c t hk ht (h.2 k c t hk ht h1)⟩
theorem do33 {W : World} {l g p x : Nat} {src dst nonce miner : Int} {S1 : World -> Prop} {S2 : Nat -> TypeId -> Value -> Rs -> World -> Prop} {S4 S5 : Rs -> World -> Prop} (hg : g < 100000000) (hp : p < 100000000)
  (hr : ∀ w,Below W.heap.size W w -> Calls TryQ.prog 48 #[pq l 0,.agg (Bl src dst nonce x (g : Int) (p : Int) miner)] w fun e w'=>e = .returned (.int .i64 0) /\ Below w.heap.size w w')
  (ht : ∀ w,Below W.heap.size W w -> Calls TryQ.prog 49 #[pq l 0,.int .i64 src,wd (g * p)] w fun e w'=>e = .returned (.tuple #[]) /\ S1 w' /\ Kp W.heap.size w w')
  (hS1 : Akd S1)
  (hb : ∀ w mc,S1 w -> W.heap.size <= mc -> w.heap[mc]? = ob (Aj l ⟨none,0,0⟩ 0 0) 165 -> Calls TryQ.prog 52 #[pq mc 0,pq l 0,.agg (Bl src dst nonce x (g : Int) (p : Int) miner)] w fun e w'=>∃ t v r,e = .returned (.iface t v) /\ S2 mc t v r w' /\ Kp W.heap.size w w')
  (hS2 : ∀ mc t v r,Akd (S2 mc t v r))
  (htl : ∀ w mc t v r,S2 mc t v r w -> Calls TryQ.prog 53 #[pq mc 0,.iface t v] w fun e w'=>∃ lv : SV,e = .returned (.agg (Dl r.good 0 r.s lv)) /\ Below w.heap.size w w' /\ LgAt W.heap.size lv r.N r.xs w')
  (hlf : ∀ w mc t v r,S2 mc t v r w -> ∃ fn rv,(∀ w,(Go.method 543 t v "Left").run TryQ.prog w = .ok (fn,rv) w) /\ (∀ args w,(callFunc fn args).run TryQ.prog w = .ok (.enter fn args) w) /\ Calls TryQ.prog fn #[rv] w fun e w'=>e = .returned (.int .i64 r.left) /\ Below w.heap.size w w')
  (hbk : ∀ w mc t v r,S2 mc t v r w -> Calls TryQ.prog 55 #[pq mc 0] w fun e w'=>e = .returned (.int .i64 r.back) /\ w' = w)
  (hst : ∀ w mc t v r,S2 mc t v r w -> Calls TryQ.prog 54 #[pq l 0,.agg (Bl src dst nonce x (g : Int) (p : Int) miner),.int .i64 r.left,.int .i64 r.back] w fun e w'=>e = .returned (.int .i64 r.k) /\ S4 r w' /\ Kq W.heap.size w w')
  (hse : ∀ w r,S4 r w -> Calls TryQ.prog 56 #[pq l 0] w fun e w'=>e = .returned (.tuple #[]) /\ S5 r w' /\ Kq W.heap.size w w')
  (hS4 : ∀ r w w' rb c,S4 r w -> W.heap.size <= rb -> w.heap[rb]? = ob c 34 -> Pres [rb] [] w w' -> S4 r w')
  (hS5 : ∀ r w w' rb c,S5 r w -> W.heap.size <= rb -> w.heap[rb]? = ob c 34 -> Pres [rb] [] w w' -> S5 r w') :
  Calls TryQ.prog 33 #[pq l 0,.agg (Bl src dst nonce x (g : Int) (p : Int) miner)] W fun e w'=>∃ (r : Rs) (lv : SV),e = .returned (.tuple #[.agg (Dl r.good r.k r.s lv),.nilIface]) /\ S5 r w' /\ LgAt W.heap.size lv r.N r.xs w':=by
 have hrs : Shut (∀ w,Below W.heap.size W w -> Calls TryQ.prog 48 #[pq l 0,.agg (Bl src dst nonce x (g : Int) (p : Int) miner)] w fun e w'=>e = .returned (.int .i64 0) /\ Below w.heap.size w w'):=hr
 have hts : Shut (∀ w,Below W.heap.size W w -> Calls TryQ.prog 49 #[pq l 0,.int .i64 src,wd (g * p)] w fun e w'=>e = .returned (.tuple #[]) /\ S1 w' /\ Kp W.heap.size w w'):=ht
 have hS1s : Shut (Akd S1):=hS1
 have hbs : Shut (∀ w mc,S1 w -> W.heap.size <= mc -> w.heap[mc]? = ob (Aj l ⟨none,0,0⟩ 0 0) 165 -> Calls TryQ.prog 52 #[pq mc 0,pq l 0,.agg (Bl src dst nonce x (g : Int) (p : Int) miner)] w fun e w'=>∃ t v r,e = .returned (.iface t v) /\ S2 mc t v r w' /\ Kp W.heap.size w w'):=hb
 have hS2s : Shut (∀ mc t v r,Akd (S2 mc t v r)):=hS2
 have htls : Shut (∀ w mc t v r,S2 mc t v r w -> Calls TryQ.prog 53 #[pq mc 0,.iface t v] w fun e w'=>∃ lv : SV,e = .returned (.agg (Dl r.good 0 r.s lv)) /\ Below w.heap.size w w' /\ LgAt W.heap.size lv r.N r.xs w'):=htl
 have hlfs : Shut (∀ w mc t v r,S2 mc t v r w -> ∃ fn rv,(∀ w,(Go.method 543 t v "Left").run TryQ.prog w = .ok (fn,rv) w) /\ (∀ args w,(callFunc fn args).run TryQ.prog w = .ok (.enter fn args) w) /\ Calls TryQ.prog fn #[rv] w fun e w'=>e = .returned (.int .i64 r.left) /\ Below w.heap.size w w'):=hlf
 have hbks : Shut (∀ w mc t v r,S2 mc t v r w -> Calls TryQ.prog 55 #[pq mc 0] w fun e w'=>e = .returned (.int .i64 r.back) /\ w' = w):=hbk
 have hsts : Shut (∀ w mc t v r,S2 mc t v r w -> Calls TryQ.prog 54 #[pq l 0,.agg (Bl src dst nonce x (g : Int) (p : Int) miner),.int .i64 r.left,.int .i64 r.back] w fun e w'=>e = .returned (.int .i64 r.k) /\ S4 r w' /\ Kq W.heap.size w w'):=hst
 have hses : Shut (∀ w r,S4 r w -> Calls TryQ.prog 56 #[pq l 0] w fun e w'=>e = .returned (.tuple #[]) /\ S5 r w' /\ Kq W.heap.size w w'):=hse
 have hS4s : Shut (∀ r w w' rb c,S4 r w -> W.heap.size <= rb -> w.heap[rb]? = ob c 34 -> Pres [rb] [] w w' -> S4 r w'):=hS4
 have hS5s : Shut (∀ r w w' rb c,S5 r w -> W.heap.size <= rb -> w.heap[rb]? = ob c 34 -> Pres [rb] [] w w' -> S5 r w'):=hS5
 clear hr ht hS1 hb hS2 htl hlf hbk hst hse hS4 hS5
 have hb0 : Below W.heap.size W ((W.alloc (.cells (Bl src dst nonce x (g : Int) (p : Int) miner) 43)).alloc (.cells #[.bool false,.int .i64 0,.int .i64 0,.slice none 0 0,.string ⟨#[]⟩] 34)):=ba.alloc (by simp) _
 have ho : ((W.alloc (.cells (Bl src dst nonce x (g : Int) (p : Int) miner) 43)).alloc (.cells #[.bool false,.int .i64 0,.int .i64 0,.slice none 0 0,.string ⟨#[]⟩] 34)).heap[W.heap.size]? = ob (Bl src dst nonce x (g : Int) (p : Int) miner) 43:=Aw (Al W _)
 have hre : ((W.alloc (.cells (Bl src dst nonce x (g : Int) (p : Int) miner) 43)).alloc (.cells #[.bool false,.int .i64 0,.int .i64 0,.slice none 0 0,.string ⟨#[]⟩] 34)).heap[W.heap.size + 1]? = ob #[.bool false,.int .i64 0,.int .i64 0,.slice none 0 0,.string ⟨#[]⟩] 34:=by
  have:=Al (W.alloc (.cells (Bl src dst nonce x (g : Int) (p : Int) miner) 43)) (.cells #[.bool false,.int .i64 0,.int .i64 0,.slice none 0 0,.string ⟨#[]⟩] 34)
  simpa using this
 have hr1:=hrs.out _ hb0
 go_enter TryQ.func33,Tryz.ntmps33
 unfold Bl at hr1 ⊢
 go_wp2_with fail
 refine hr1.mono ?_
 rintro e w1 ⟨rfl,hbn⟩
 clear hr1
 have hb1:=hb0.trans (hbn.mono hb0.size)
 have ho1:=bk hbn ho
 have hr1:=bk hbn hre
 go_wp2_with fail
 refine rq (fun V=>V.heap[W.heap.size]? = ob (Bl src dst nonce x (g : Int) (p : Int) miner) 43 /\ V.heap[W.heap.size + 1]? = ob #[.bool false,.int .i64 0,.int .i64 0,.slice none 0 0,.string ⟨#[]⟩] 34) ⟨ho1,hr1⟩ fun hH=>?_
 refine tx 0 19 (pq l 0) hH ?_
 refine tx 1 20 (pq W.heap.size 0) hH ?_
 refine tv 2 21 (.int .i64 src) (fun _ hW=>bq hW.1 0 rfl) hH ?_
 refine tx 3 22 (pq W.heap.size 7) hH ?_
 refine tv 4 23 (.int .i64 (g : Int)) (fun _ hW=>bq hW.1 7 rfl) hH ?_
 refine tx 5 24 (pq W.heap.size 8) hH ?_
 refine tv 6 25 (.int .i64 (p : Int)) (fun _ hW=>bq hW.1 8 rfl) hH ?_
 refine r1 7 fun K hK=>?_
 go_simp
 refine (Ik g p hg hp _).mono ?_
 rintro e V1 ⟨rfl,hbn⟩
 go_wp2_with fail
 refine hK.out _ _ ⟨(hbn.block _ (Aa hH.1)).trans hH.1,(hbn.block _ (Aa hH.2)).trans hH.2⟩ fun hH=>?_
 clear hK K
 have hB1 : Below W.heap.size W V1:=hb1.trans (((Below.refl _ w1).drew.trans hbn).mono hb1.size)
 refine r1 8 fun K hK=>?_
 go_simp
 refine (hts.out V1 hB1).mono ?_
 rintro e V2 ⟨rfl,h1,hk2⟩
 have h1s : Shut (S1 V2):=h1
 clear h1
 go_wp2_with fail
 refine hK.out _ _ ⟨hk2.2 _ _ _ (Nat.le_refl _) (.inl rfl) hH.1,hk2.2 _ _ _ (by omega) (.inr rfl) hH.2⟩ fun hH=>?_
 clear hK K
 refine dn ?_
 have hsz:=Aa hH.2
 have hm1:=Aof l V2
 go_wp2_with fail
 refine hm1.mono ?_
 rintro e V3 ⟨rfl,hmc,hb3⟩
 clear hm1
 have h13:=hS1s.out _ _ h1s.out hb3
 generalize hmcn : V2.heap.size = mc at hmc ⊢
 have hB3:=hbs.out V3 mc h13 (by omega) hmc
 have ho3:=bk hb3 hH.1
 have hr3:=bk hb3 hH.2
 clear hB1 hmc
 have hol:=Aa ho3
 have c0:=bq ho3 0 rfl
 have c1:=bq ho3 1 rfl
 have c2:=bq ho3 2 rfl
 have c3:=bq ho3 3 rfl
 have c4:=bq ho3 4 rfl
 have c5:=bq ho3 5 rfl
 have c6:=bq ho3 6 rfl
 have c7:=bq ho3 7 rfl
 have c8:=bq ho3 8 rfl
 have c9:=bq ho3 9 rfl
 have c10:=bq ho3 10 rfl
 unfold Bl at hB3
 go_wp2_with fail
 refine hB3.mono ?_
 rintro e V4 ⟨t,v,r,rfl,h2,hk4⟩
 have h2s : Shut (S2 mc t v r V4):=h2
 clear hB3 h2 c0 c1 c2 c3 c4 c5 c6 c7 c8 c9 c10
 have ho4:=hk4.2 _ _ _ (Nat.le_refl _) (.inl rfl) ho3
 have hr4:=hk4.2 _ _ _ (by omega) (.inr rfl) hr3
 have htl1:=htls.out V4 mc t v r h2s.out
 go_wp2_with fail
 refine htl1.mono ?_
 rintro e V5 ⟨lv,rfl,hb5,hlv5⟩
 clear htl1
 have ho5:=bk hb5 ho4
 have hr5:=bk hb5 hr4
 have h25:=hS2s.out mc t v r _ _ h2s.out hb5
 have hbx : Below V5.heap.size V5 (V5.alloc (.cells (Dl r.good 0 r.s lv) 34)):=ba
 have hlv6:=hlv5.below hbx
 have hrr:=Al V5 (.cells (Dl r.good 0 r.s lv) 34)
 have ho6:=bk hbx ho5
 have hr6:=bk hbx hr5
 have h26:=hS2s.out mc t v r _ _ h25 hbx
 have h26s : Shut (S2 mc t v r (V5.alloc (.cells (Dl r.good 0 r.s lv) 34))):=h26
 clear h26 h25
 unfold Dl
 go_wp2_with fail
 change Code.wp _ _ _ _ (V5.alloc (.cells (Dl r.good 0 r.s lv) 34))
 generalize V5.alloc (.cells (Dl r.good 0 r.s lv) 34) = V6 at hrr ho6 hr6 h26s hlv6 ⊢
 have hrbl : W.heap.size + 1 < V5.heap.size:=Aa hr5
 generalize V5.heap.size = rb at hrr hrbl ⊢
 obtain ⟨fn,rv,hmt,hcf,hlc⟩:=hlfs.out V6.drew mc t v r (hS2s.out mc t v r _ _ h26s.out (Below.refl _ _).drew)
 refine rq (fun V=>V.heap[W.heap.size]? = ob (Bl src dst nonce x (g : Int) (p : Int) miner) 43 /\ V.heap[W.heap.size + 1]? = ob #[.bool false,.int .i64 0,.int .i64 0,.slice none 0 0,.string ⟨#[]⟩] 34) ⟨ho6,hr6⟩ fun hH=>?_
 refine tx 0 37 (pq l 0) hH ?_
 refine td (i:=1) (d:=some 38) (v:=.agg (Bl src dst nonce x (g : Int) (p : Int) miner)) rfl rfl (fun V hW=>?_) hH ?_
 ·have k0:=bq hW.1 0 rfl
  have k1:=bq hW.1 1 rfl
  have k2:=bq hW.1 2 rfl
  have k3:=bq hW.1 3 rfl
  have k4:=bq hW.1 4 rfl
  have k5:=bq hW.1 5 rfl
  have k6:=bq hW.1 6 rfl
  have k7:=bq hW.1 7 rfl
  have k8:=bq hW.1 8 rfl
  have k9:=bq hW.1 9 rfl
  have k10:=bq hW.1 10 rfl
  clear hW hH
  unfold Bl
  go_simp
 refine tx 2 39 (.iface t v) hH ?_
 refine tx 4 41 (pq mc 0) hH ?_
 refine r1 3 fun K hK=>?_
 go_simp
 refine hlc.mono ?_
 rintro e V7 ⟨rfl,hb7⟩
 clear hlc
 go_wp2_with fail
 refine hK.out _ _ ⟨(hb7.block _ (Aa hH.1)).trans hH.1,(hb7.block _ (Aa hH.2)).trans hH.2⟩ fun hH=>?_
 clear hK K hmt hcf
 have h27s : Shut (S2 mc t v r V7):=hS2s.out mc t v r _ _ (hS2s.out mc t v r _ _ h26s.out (Below.refl _ _).drew) hb7
 have hlv7 : LgAt W.heap.size lv r.N r.xs V7:=(LgAt.below (w':=V6.drew) hlv6 (Below.refl _ _).drew).below hb7
 have hrr7:=(hb7.block rb (Aa hrr)).trans hrr
 refine r1 5 fun K hK=>?_
 go_simp
 refine (hbks.out V7 mc t v r h27s.out).mono ?_
 rintro e V8 ⟨rfl,hV8⟩
 subst hV8
 go_wp2_with fail
 refine hK.out _ _ hH fun hH=>?_
 clear hK K
 refine r1 6 fun K hK=>?_
 go_simp
 refine (hsts.out _ mc t v r h27s.out).mono ?_
 rintro e V9 ⟨rfl,h4,hk9,hq9⟩
 have hlv9:=hlv7.kq hq9 (Nat.le_refl _)
 have h4s : Shut (S4 r V9):=h4
 clear h4
 go_wp2_with fail
 refine hK.out _ _ ⟨hk9.2 _ _ _ (Nat.le_refl _) (.inl rfl) hH.1,hk9.2 _ _ _ (by omega) (.inr rfl) hH.2⟩ fun hH=>?_
 clear hK K
 have hrr9:=hk9.2 _ _ _ (by omega) (.inr rfl) hrr7
 have e1:=bq hrr9 1 rfl
 have z1:=Ai hrr9 1
 refine r1 7 fun K hK=>?_
 go_simp
 refine hK.out _ _ hH fun hH=>?_
 clear hK K
 refine r1 8 fun K hK=>?_
 go_simp
 refine hK.out _ _ ⟨Ae hH.1 (by omega),Ae hH.2 (by omega)⟩ fun hH=>?_
 clear hK K
 refine dn ?_
 have hrrA : (V9.setCell ⟨rb,1,none⟩ (.int .i64 r.k)).heap[rb]? = ob (Dl r.good r.k r.s lv) 34:=Av (i:=1) hrr9
 have h4A : S4 r (V9.setCell ⟨rb,1,none⟩ (.int .i64 r.k)):=hS4s.out _ _ _ _ _ h4s.out (by omega) hrr9 (Pres.setCell V9 rb 1 _)
 have hse1:=hses.out _ _ h4A
 have hlvA:=hlv9.pres (Pres.setCell V9 rb 1 (.int .i64 r.k)) hrr9
 generalize V9.setCell ⟨rb,1,none⟩ (.int .i64 r.k) = VA at hH hrrA hse1 hlvA ⊢
 clear e1 z1 h4A
 go_wp2_with fail
 refine hse1.mono ?_
 rintro e VB ⟨rfl,h5,hkB,hqB⟩
 have hlvB:=hlvA.kq hqB (Nat.le_refl _)
 have h5s : Shut (S5 r VB):=h5
 clear h5 hse1
 have hrrB:=hkB.2 _ _ _ (by omega) (.inr rfl) hrrA
 have hrB:=hkB.2 _ _ _ (by omega) (.inr rfl) hH.2
 have hlB:=Aa hrrB
 have e0:=bq hrrB 0 rfl
 have y0:=bq hrB 0 rfl
 have z0:=Ai hrB 0
 have e1:=bq hrrB 1 rfl
 have y1:=bq hrB 1 rfl
 have z1:=Ai hrB 1
 have e2:=bq hrrB 2 rfl
 have y2:=bq hrB 2 rfl
 have z2:=Ai hrB 2
 have e3:=bq hrrB 3 rfl
 have y3:=bq hrB 3 rfl
 have z3:=Ai hrB 3
 have e4:=bq hrrB 4 rfl
 have y4:=bq hrB 4 rfl
 have z4:=Ai hrB 4
 have hp5 : Pres [W.heap.size + 1] [] VB (((((VB.setCell ⟨W.heap.size + 1,0,none⟩ (.bool r.good)).setCell ⟨W.heap.size + 1,1,none⟩ (.int .i64 r.k)).setCell ⟨W.heap.size + 1,2,none⟩ (.int .i64 0)).setCell ⟨W.heap.size + 1,3,none⟩ (.slice lv.a lv.n lv.c)).setCell ⟨W.heap.size + 1,4,none⟩ (.string r.s)):=((((Pres.setCell VB (W.heap.size + 1) 0 _).trans (Pres.setCell _ (W.heap.size + 1) 1 _)).trans (Pres.setCell _ (W.heap.size + 1) 2 _)).trans (Pres.setCell _ (W.heap.size + 1) 3 _)).trans (Pres.setCell _ (W.heap.size + 1) 4 _)
 have hr5 : (((((VB.setCell ⟨W.heap.size + 1,0,none⟩ (.bool r.good)).setCell ⟨W.heap.size + 1,1,none⟩ (.int .i64 r.k)).setCell ⟨W.heap.size + 1,2,none⟩ (.int .i64 0)).setCell ⟨W.heap.size + 1,3,none⟩ (.slice lv.a lv.n lv.c)).setCell ⟨W.heap.size + 1,4,none⟩ (.string r.s)).heap[W.heap.size + 1]? = ob (Dl r.good r.k r.s lv) 34:=Av (i:=4) (Av (i:=3) (Av (i:=2) (Av (i:=1) (Av (i:=0) hrB))))
 have h5A:=hS5s.out _ _ _ _ _ h5s.out (by omega) hrB hp5
 have hlvC:=hlvB.pres hp5 hrB
 go_wp2
 generalize ((((VB.setCell ⟨W.heap.size + 1,0,none⟩ (.bool r.good)).setCell ⟨W.heap.size + 1,1,none⟩ (.int .i64 r.k)).setCell ⟨W.heap.size + 1,2,none⟩ (.int .i64 0)).setCell ⟨W.heap.size + 1,3,none⟩ (.slice lv.a lv.n lv.c)).setCell ⟨W.heap.size + 1,4,none⟩ (.string r.s) = VC at hr5 h5A hlvC ⊢
 clear y0 y1 y2 y3 y4
 have y0:=bq hr5 0 rfl
 have y1:=bq hr5 1 rfl
 have y2:=bq hr5 2 rfl
 have y3:=bq hr5 3 rfl
 have y4:=bq hr5 4 rfl
 simp [bodyPost,results,Tryz.results33,go_sem,y0,y1,y2,y3,y4]
 exact ⟨r,lv,rfl,h5A,hlvC⟩
end
section
attribute [local go_sem] wd
theorem Eg (w : World) (b i : Nat) (v : Value) (a : Addr) (h : a.block ≠ b) : (w.setCell ⟨b,i,none⟩ v).cell? a = w.cell? a:=by
 simp only [World.cell?,heap_setCell_other w ⟨b,i,none⟩ a.block v h]
theorem do15 {W : World} {l pw x : Nat} {src dst nonce g p miner : Int} {S5 : Rs -> World -> Prop} (hpw : W.cell? ⟨pw,0,none⟩ = some (pq l 0)) (hpl : pw < W.heap.size)
  (hc : ∀ w,Below W.heap.size W w -> Calls TryQ.prog 33 #[pq l 0,.agg (Bl src dst nonce x g p miner)] w fun e w'=>∃ (r : Rs) (lv : SV),e = .returned (.tuple #[.agg (Dl r.good r.k r.s lv),.nilIface]) /\ S5 r w' /\ LgAt W.heap.size lv r.N r.xs w' /\ w.heap.size <= w'.heap.size /\ Kp W.heap.size w w' /\ w'.cell? ⟨pw,0,none⟩ = W.cell? ⟨pw,0,none⟩)
  (hS5 : ∀ r w w' rb c,S5 r w -> W.heap.size <= rb -> w.heap[rb]? = ob c 34 -> Pres [rb] [] w w' -> S5 r w') :
  Calls TryQ.prog 15 #[pq pw 0,.agg (Bl src dst nonce x g p miner)] W fun e w'=>∃ (r : Rs) (lv : SV),e = .returned (.tuple #[.agg (Dl r.good r.k r.s lv),.nilIface]) /\ S5 r w' /\ LgAt W.heap.size lv r.N r.xs w':=by
 have hb0 : Below W.heap.size W ((W.alloc (.cells (Bl src dst nonce x g p miner) 43)).alloc (.cells #[.bool false,.int .i64 0,.int .i64 0,.slice none 0 0,.string ⟨#[]⟩] 34)):=ba.alloc (by simp) _
 have ho : ((W.alloc (.cells (Bl src dst nonce x g p miner) 43)).alloc (.cells #[.bool false,.int .i64 0,.int .i64 0,.slice none 0 0,.string ⟨#[]⟩] 34)).heap[W.heap.size]? = ob (Bl src dst nonce x g p miner) 43:=Aw (Al W _)
 have hr1 : ((W.alloc (.cells (Bl src dst nonce x g p miner) 43)).alloc (.cells #[.bool false,.int .i64 0,.int .i64 0,.slice none 0 0,.string ⟨#[]⟩] 34)).heap[W.heap.size + 1]? = ob #[.bool false,.int .i64 0,.int .i64 0,.slice none 0 0,.string ⟨#[]⟩] 34:=by
  have:=Al (W.alloc (.cells (Bl src dst nonce x g p miner) 43)) (.cells #[.bool false,.int .i64 0,.int .i64 0,.slice none 0 0,.string ⟨#[]⟩] 34)
  simpa using this
 have hpw1:=(hb0.cell (p:=⟨pw,0,none⟩) hpl).trans hpw
 have hcs : Shut _:=hc _ hb0.drew
 clear hc
 go_enter TryQ.func15,Tryz.ntmps15
 unfold Bl
 go_wp2_with fail
 change Code.wp _ _ _ _ ((W.alloc (.cells (Bl src dst nonce x g p miner) 43)).alloc (.cells #[.bool false,.int .i64 0,.int .i64 0,.slice none 0 0,.string ⟨#[]⟩] 34))
 generalize ((W.alloc (.cells (Bl src dst nonce x g p miner) 43)).alloc (.cells #[.bool false,.int .i64 0,.int .i64 0,.slice none 0 0,.string ⟨#[]⟩] 34)) = w1 at hb0 ho hr1 hpw1 hcs ⊢
 refine rq (fun V=>V.cell? ⟨pw,0,none⟩ = some (pq l 0) /\ V.heap[W.heap.size]? = ob (Bl src dst nonce x g p miner) 43) ⟨hpw1,ho⟩ fun hH=>?_
 refine tx 0 6 (pq pw 0) hH ?_
 refine tx 1 7 (pq pw 0) hH ?_
 refine tx 2 8 (pq pw 0) hH ?_
 refine td (i:=3) (d:=some 9) (v:=pq l 0) rfl rfl (fun V hW=>?_) hH ?_
 ·have k0:=hW.1
  clear hW hH
  go_simp
 refine td (i:=4) (d:=some 10) (v:=.agg (Bl src dst nonce x g p miner)) rfl rfl (fun V hW=>?_) hH ?_
 ·have k0:=bq hW.2 0 rfl
  have k1:=bq hW.2 1 rfl
  have k2:=bq hW.2 2 rfl
  have k3:=bq hW.2 3 rfl
  have k4:=bq hW.2 4 rfl
  have k5:=bq hW.2 5 rfl
  have k6:=bq hW.2 6 rfl
  have k7:=bq hW.2 7 rfl
  have k8:=bq hW.2 8 rfl
  have k9:=bq hW.2 9 rfl
  have k10:=bq hW.2 10 rfl
  clear hW hH
  unfold Bl
  go_simp
 refine r1 5 fun K hK=>?_
 go_simp
 refine Calls.mono hcs.out ?_
 rintro e V1 ⟨r,lv,rfl,h5,hlv5,hb5,hk5,hpw5⟩
 have h5s : Shut (S5 r V1):=h5
 clear h5
 go_wp2_with fail
 refine hK.out _ _ ⟨hpw5.trans hpw,hk5.2 _ _ _ (Nat.le_refl _) (.inl rfl) hH.2⟩ fun hH=>?_
 clear hK K hcs
 have hr5:=hk5.2 _ _ _ (by omega) (.inr rfl) hr1
 have e0:=bq hr5 0 rfl
 have z0:=Ai hr5 0
 have e1:=bq hr5 1 rfl
 have z1:=Ai hr5 1
 have e2:=bq hr5 2 rfl
 have z2:=Ai hr5 2
 have e3:=bq hr5 3 rfl
 have z3:=Ai hr5 3
 have e4:=bq hr5 4 rfl
 have z4:=Ai hr5 4
 refine tx 6 12 (.agg (Dl r.good r.k r.s lv)) hH ?_
 refine tx 7 13 .nilIface hH ?_
 unfold Dl
 refine r1 8 fun K hK=>?_
 go_simp
 have hp5 : Pres [W.heap.size + 1] [] V1 (((((V1.setCell ⟨W.heap.size + 1,0,none⟩ (.bool r.good)).setCell ⟨W.heap.size + 1,1,none⟩ (.int .i64 r.k)).setCell ⟨W.heap.size + 1,2,none⟩ (.int .i64 0)).setCell ⟨W.heap.size + 1,3,none⟩ (.slice lv.a lv.n lv.c)).setCell ⟨W.heap.size + 1,4,none⟩ (.string r.s)):=((((Pres.setCell V1 (W.heap.size + 1) 0 _).trans (Pres.setCell _ (W.heap.size + 1) 1 _)).trans (Pres.setCell _ (W.heap.size + 1) 2 _)).trans (Pres.setCell _ (W.heap.size + 1) 3 _)).trans (Pres.setCell _ (W.heap.size + 1) 4 _)
 have hr6 : (((((V1.setCell ⟨W.heap.size + 1,0,none⟩ (.bool r.good)).setCell ⟨W.heap.size + 1,1,none⟩ (.int .i64 r.k)).setCell ⟨W.heap.size + 1,2,none⟩ (.int .i64 0)).setCell ⟨W.heap.size + 1,3,none⟩ (.slice lv.a lv.n lv.c)).setCell ⟨W.heap.size + 1,4,none⟩ (.string r.s)).heap[W.heap.size + 1]? = ob (Dl r.good r.k r.s lv) 34:=Av (i:=4) (Av (i:=3) (Av (i:=2) (Av (i:=1) (Av (i:=0) hr5))))
 have h5A:=hS5 _ _ _ _ _ h5s.out (by omega) hr5 hp5
 have hlv6:=hlv5.pres hp5 hr5
 have hpw6 : (((((V1.setCell ⟨W.heap.size + 1,0,none⟩ (.bool r.good)).setCell ⟨W.heap.size + 1,1,none⟩ (.int .i64 r.k)).setCell ⟨W.heap.size + 1,2,none⟩ (.int .i64 0)).setCell ⟨W.heap.size + 1,3,none⟩ (.slice lv.a lv.n lv.c)).setCell ⟨W.heap.size + 1,4,none⟩ (.string r.s)).cell? ⟨pw,0,none⟩ = V1.cell? ⟨pw,0,none⟩:=by
  have hne : pw ≠ W.heap.size + 1:=by omega
  rw [Eg _ _ _ _ _ hne,Eg _ _ _ _ _ hne,Eg _ _ _ _ _ hne,Eg _ _ _ _ _ hne,Eg _ _ _ _ _ hne]
 have ho6 : (((((V1.setCell ⟨W.heap.size + 1,0,none⟩ (.bool r.good)).setCell ⟨W.heap.size + 1,1,none⟩ (.int .i64 r.k)).setCell ⟨W.heap.size + 1,2,none⟩ (.int .i64 0)).setCell ⟨W.heap.size + 1,3,none⟩ (.slice lv.a lv.n lv.c)).setCell ⟨W.heap.size + 1,4,none⟩ (.string r.s)).heap[W.heap.size]? = _:=hp5.obj hH.2 (by simp [I8]) (by simp)
 generalize ((((V1.setCell ⟨W.heap.size + 1,0,none⟩ (.bool r.good)).setCell ⟨W.heap.size + 1,1,none⟩ (.int .i64 r.k)).setCell ⟨W.heap.size + 1,2,none⟩ (.int .i64 0)).setCell ⟨W.heap.size + 1,3,none⟩ (.slice lv.a lv.n lv.c)).setCell ⟨W.heap.size + 1,4,none⟩ (.string r.s) = V2 at hp5 hr6 h5A hlv6 hpw6 ho6 ⊢
 refine hK.out _ _ ⟨hpw6.trans hH.1,ho6⟩ fun hH=>?_
 clear hK K e0 e1 e2 e3 e4
 refine r1 9 fun K hK=>?_
 go_simp
 refine hK.out _ _ hH fun hH=>?_
 clear hK K
 refine dn ?_
 have e0:=bq hr6 0 rfl
 have e1:=bq hr6 1 rfl
 have e2:=bq hr6 2 rfl
 have e3:=bq hr6 3 rfl
 have e4:=bq hr6 4 rfl
 go_wp2
 simp [bodyPost,results,Tryz.results15,go_sem,e0,e1,e2,e3,e4]
 exact ⟨r,lv,rfl,h5A,hlv6⟩
end
end Go.Mark
