import Derived.Test.YtbephahokhnccaaGreatDoorXL4toL6
import Derived.Test.YtbephahokhnccaaGreatDoorXL1toL7
import Derived.Test.YtbephahokhnccaaGreatDoorXK40toK32
set_option linter.unusedSectionVars false
set_option maxRecDepth 100000
set_option maxHeartbeats 8000000
namespace Go.Mark
open Go.RowKit Go.Proofs
variable [BaseB]
section
attribute [local go_sem] wd
theorem Ef {W : World} {f : Nat} {F : Frm} {sv : SV} {T : List Nat} {a : Nat} (hf : W.heap[f]? = ob (frC F sv) 225) (hs : Stk W sv (T ++ [0,a])) :
    Calls TryQ.prog 343 #[pq f 0] W fun e w'=>∃ sv',e = .returned (.slice none 0 0) /\ w'.heap[f]? = ob (frC F sv') 225 /\ Stk w' sv' T /\ Pres [f] [] W w':=by
 have hs0 : Stk W.drew sv (T ++ [0] ++ [a]):=by rw [List.append_assoc]; exact hs.below (Below.refl _ _).drew
 go_enter TryQ.func343,Tryz.ntmps343
 go_wp2_with fail
 refine rq (fun V=>V.cell? ⟨f,15,none⟩ = some (.slice none 0 0)) ((Ad hf 15).trans rfl) fun hH=>?_
 refine tx 0 3 (pq f 0) hH ?_
 refine tx 1 4 (pq f 0) hH ?_
 refine tx 2 5 (pq f 15) hH ?_
 refine td (i:=3) (d:=some 6) (v:=.slice none 0 0) rfl rfl (fun V hW=>?_) hH ?_
 ·have k0:=hW
  clear hW hH
  go_simp
 refine tx 4 7 (pq f 0) hH ?_
 refine tx 5 8 (pq f 0) hH ?_
 refine tx 6 9 (pq f 14) hH ?_
 refine tx 8 11 (pq f 0) hH ?_
 refine tx 9 12 (pq f 0) hH ?_
 refine tx 10 13 (pq f 14) hH ?_
 refine r1 7 fun K hK=>?_
 go_simp
 refine (Cz (W:=W.drew) (o:=14) (T:=T ++ [0]) (x:=a) hs0 hf (Fz F sv) (by decide)).mono ?_
 rintro e W1 ⟨rfl,hf1,hs1,hp1⟩
 go_wp2_with fail
 refine hK.out _ _ ((Ad hf1 15).trans rfl) fun hH=>?_
 clear hK K
 refine r1 11 fun K hK=>?_
 go_simp
 refine (Cz (o:=14) (T:=T) (x:=0) hs1 hf1 rfl (by decide)).mono ?_
 rintro e W2 ⟨rfl,hf2,hs2,hp2⟩
 go_wp2_with fail
 refine hK.out _ _ ((Ad hf2 15).trans rfl) fun hH=>?_
 clear hK K
 refine r1 12 fun K hK=>?_
 go_simp
 refine (Xm a _ W2).mono ?_
 rintro e W3 ⟨rfl,hb3⟩
 go_wp2_with fail
 refine hK.out _ _ ((Ad ((hb3.block _ (Aa hf2)).trans hf2) 15).trans rfl) fun hH=>?_
 clear hK K
 refine tx 13 2 (.slice none 0 0) hH ?_
 refine dn ?_
 go_wp2
 go_ret
 exact ⟨⟨sv.a,T.length,sv.c⟩,rfl,(hb3.block _ (Aa hf2)).trans hf2,hs2.below hb3,((Pres.of_below (Below.refl _ _).drew [f] []).trans (hp1.trans hp2)).trans (.of_below hb3 _ _)⟩
theorem Aag : ∃ i z,TryQ.prog.info? 95 = some i /\ i.zero = some z /\ i.size = 6 /\ i.bytes = 56 /\ z.cells.size = 6:=by
  obtain ⟨i,hi⟩ : ∃ i,TryQ.prog.info? 95 = some i:=by
    cases h : TryQ.prog.info? 95 with
    | none=>have:=congrArg Option.isSome h; rw [show (TryQ.prog.info? 95).isSome = true by kernel_rfl] at this; cases this
    | some i=>exact ⟨i,rfl⟩
  have e8 : (TryQ.prog.info? 95).map (·.size) = some 6:=by kernel_rfl
  have e64 : (TryQ.prog.info? 95).map (·.bytes) = some 56:=by kernel_rfl
  have ez : ((TryQ.prog.info? 95).bind (·.zero)).map (·.cells.size) = some 6:=by kernel_rfl
  rw [hi] at e8 e64 ez
  simp only [Option.map_some,Option.some.injEq,Option.bind_some] at e8 e64 ez
  cases hz : i.zero with
  | none=>rw [hz] at ez; cases ez
  | some z=>rw [hz] at ez; exact ⟨i,z,hi,hz,e8,e64,by simpa using ez⟩
def Ej (self : Int) (t : Nat) : List Value:=[.int .i64 self,.int .u64 (lim t 0),.int .u64 (lim t 1),.int .u64 (lim t 2),.int .u64 (lim t 3),.string ⟨#[]⟩]
theorem Akl {W : World} {f l N : Nat} {F : Frm} {sv lg : SV} {back depth : Int} {xs : List Value} (hf : W.heap[f]? = ob (frC F sv) 225) (hm : W.heap[F.m]? = ob (Aj l lg back depth) 165) (hown : W.ownsRow BaseB.b0 95 6 (.slice lg.a lg.n lg.c) N xs) (hN : N < 1000000) (hlo : BaseB.b0 <= W.heap.size) (a n t : Nat) (hn0 : n = 0) :
    Calls TryQ.prog 303 #[pq f 0,wd a,wd n,wd t] W fun e w'=>∃ lg' : SV,e = .returned (.tuple #[]) /\ lg'.n = N + 1 /\ w'.heap[F.m]? = ob (Aj l lg' back depth) 165 /\ w'.ownsRow BaseB.b0 95 6 (.slice lg'.a lg'.n lg'.c) (N + 1) (xs ++ Ej F.self t) /\ Pres [F.m] [95] W w':=by
 have hst : ∀ w : World,Calls TryQ.prog 297 #[.slice none 0 0,wd a,wd n] w fun e w'=>e = .returned (.slice none 0 0) /\ Below w.heap.size w w':=fun w=>by subst hn0; exact Xm a _ w
 obtain ⟨i,z,hi,hz,hs,hbb,hzs⟩:=Aag
 have hb1 : Below W.heap.size W (((W.alloc (.cells (wq a) 41)).alloc (.cells (wq n) 41)).alloc (.cells (wq t) 41)):=(ba.trans (ba.mono (by simp))).trans (ba.mono (by simp; omega))
 have hf1:=bk hb1 hf
 have hm1:=bk hb1 hm
 have ha1 : (((W.alloc (.cells (wq a) 41)).alloc (.cells (wq n) 41)).alloc (.cells (wq t) 41)).heap[W.heap.size]? = ob (wq a) 41:=Aw (Aw (Al W _))
 have hn1 : (((W.alloc (.cells (wq a) 41)).alloc (.cells (wq n) 41)).alloc (.cells (wq t) 41)).heap[W.heap.size + 1]? = ob (wq n) 41:=Aw (by have:=Al (W.alloc (.cells (wq a) 41)) (.cells (wq n) 41); simpa using this)
 have ht1 : (((W.alloc (.cells (wq a) 41)).alloc (.cells (wq n) 41)).alloc (.cells (wq t) 41)).heap[W.heap.size + 2]? = ob (wq t) 41:=by have:=Al ((W.alloc (.cells (wq a) 41)).alloc (.cells (wq n) 41)) (.cells (wq t) 41); simpa using this
 clear hn0
 go_enter TryQ.func303,Tryz.ntmps303
 go_wp2_with fail
 change Code.wp _ _ _ _ (((W.alloc (.cells (wq a) 41)).alloc (.cells (wq n) 41)).alloc (.cells (wq t) 41))
 generalize (((W.alloc (.cells (wq a) 41)).alloc (.cells (wq n) 41)).alloc (.cells (wq t) 41)) = V1 at hb1 hf1 hm1 ha1 hn1 ht1 ⊢
 refine sk (S:=fun V=>V.heap[f]? = ob (frC F sv) 225 /\ V.heap[F.m]? = ob (Aj l lg back depth) 165 /\ V.heap[W.heap.size]? = ob (wq a) 41 /\ V.heap[W.heap.size + 1]? = ob (wq n) 41 /\ V.heap[W.heap.size + 2]? = ob (wq t) 41) 29 (by kernel_rfl) ⟨hf1,hm1,ha1,hn1,ht1⟩ fun hH=>?_
 refine tk (i:=0) (d:=some 8) (v:=pq f 0) rfl rfl (fun V hW=>?_) hH ?_
 ·clear hW hH
  go_simp
 refine tk (i:=1) (d:=some 9) (v:=pq f 0) rfl rfl (fun V hW=>?_) hH ?_
 ·clear hW hH
  go_simp
 refine tk (i:=2) (d:=some 10) (v:=pq f 0) rfl rfl (fun V hW=>?_) hH ?_
 ·clear hW hH
  go_simp
 refine tk (i:=3) (d:=some 11) (v:=pq F.m 0) rfl rfl (fun V hW=>?_) hH ?_
 ·have k0:=bq (hW.1) 0 rfl
  clear hW hH
  go_simp
 refine tk (i:=4) (d:=some 12) (v:=pq f 0) rfl rfl (fun V hW=>?_) hH ?_
 ·clear hW hH
  go_simp
 refine tk (i:=5) (d:=some 13) (v:=pq f 0) rfl rfl (fun V hW=>?_) hH ?_
 ·clear hW hH
  go_simp
 refine tk (i:=6) (d:=some 14) (v:=pq f 0) rfl rfl (fun V hW=>?_) hH ?_
 ·clear hW hH
  go_simp
 refine tk (i:=7) (d:=some 15) (v:=pq F.m 0) rfl rfl (fun V hW=>?_) hH ?_
 ·have k0:=bq (hW.1) 0 rfl
  clear hW hH
  go_simp
 refine tk (i:=8) (d:=some 16) (v:=pq F.m 0) rfl rfl (fun V hW=>?_) hH ?_
 ·clear hW hH
  go_simp
 refine tk (i:=9) (d:=some 17) (v:=pq F.m 1) rfl rfl (fun V hW=>?_) hH ?_
 ·clear hW hH
  go_simp
 refine tk (i:=10) (d:=some 18) (v:=.slice lg.a lg.n lg.c) rfl rfl (fun V hW=>?_) hH ?_
 ·have k0:=bq (hW.2.1) 1 rfl
  clear hW hH
  go_simp
 refine tk (i:=11) (d:=some 19) (v:=pq f 0) rfl rfl (fun V hW=>?_) hH ?_
 ·clear hW hH
  go_simp
 refine tk (i:=12) (d:=some 20) (v:=pq f 0) rfl rfl (fun V hW=>?_) hH ?_
 ·clear hW hH
  go_simp
 refine tk (i:=13) (d:=some 21) (v:=pq f 6) rfl rfl (fun V hW=>?_) hH ?_
 ·clear hW hH
  go_simp
 refine tk (i:=14) (d:=some 22) (v:=.int .i64 F.self) rfl rfl (fun V hW=>?_) hH ?_
 ·have k0:=bq (hW.1) 6 rfl
  clear hW hH
  go_simp
 refine tk (i:=15) (d:=some 23) (v:=.agg (wq t)) rfl rfl (fun V hW=>?_) hH ?_
 ·have k0:=bq (hW.2.2.2.2) 0 rfl
  have k1:=bq (hW.2.2.2.2) 1 rfl
  have k2:=bq (hW.2.2.2.2) 2 rfl
  have k3:=bq (hW.2.2.2.2) 3 rfl
  clear hW hH
  go_simp
 refine tk (i:=16) (d:=some 24) (v:=pq f 0) rfl rfl (fun V hW=>?_) hH ?_
 ·clear hW hH
  go_simp
 refine tk (i:=17) (d:=some 25) (v:=pq f 0) rfl rfl (fun V hW=>?_) hH ?_
 ·clear hW hH
  go_simp
 refine tk (i:=18) (d:=some 26) (v:=pq f 15) rfl rfl (fun V hW=>?_) hH ?_
 ·clear hW hH
  go_simp
 refine tk (i:=19) (d:=some 27) (v:=.slice none 0 0) rfl rfl (fun V hW=>?_) hH ?_
 ·have k0:=bq (hW.1) 15 rfl
  clear hW hH
  go_simp
 refine tk (i:=20) (d:=some 28) (v:=.agg (wq a)) rfl rfl (fun V hW=>?_) hH ?_
 ·have k0:=bq (hW.2.2.1) 0 rfl
  have k1:=bq (hW.2.2.1) 1 rfl
  have k2:=bq (hW.2.2.1) 2 rfl
  have k3:=bq (hW.2.2.1) 3 rfl
  clear hW hH
  go_simp
 refine tk (i:=21) (d:=some 29) (v:=.agg (wq n)) rfl rfl (fun V hW=>?_) hH ?_
 ·have k0:=bq (hW.2.2.2.1) 0 rfl
  have k1:=bq (hW.2.2.2.1) 1 rfl
  have k2:=bq (hW.2.2.2.1) 2 rfl
  have k3:=bq (hW.2.2.2.1) 3 rfl
  clear hW hH
  go_simp
 refine rk (i:=22) rfl fun K hK=>?_
 go_simp
 refine (hst _).mono ?_
 rintro e W2 ⟨rfl,hb2⟩
 go_wp2_with fail
 refine hK.out _ _ ⟨(hb2.block _ (Aa hH.1)).trans hH.1,(hb2.block _ (Aa hH.2.1)).trans hH.2.1,(hb2.block _ (Aa hH.2.2.1)).trans hH.2.2.1,(hb2.block _ (Aa hH.2.2.2.1)).trans hH.2.2.2.1,(hb2.block _ (Aa hH.2.2.2.2)).trans hH.2.2.2.2⟩ fun hH=>?_
 clear hK K
 refine tk (i:=23) (d:=some 31) (v:=.string ⟨#[]⟩) rfl rfl (fun V hW=>?_) hH ?_
 ·have hcv:=Yr
  clear hW hH
  go_simp
 refine tk (i:=24) (d:=some 32) (v:=.agg #[.int .i64 F.self,.int .u64 (lim t 0),.int .u64 (lim t 1),.int .u64 (lim t 2),.int .u64 (lim t 3),.string ⟨#[]⟩]) rfl rfl (fun V hW=>?_) hH ?_
 ·clear hW hH
  go_simp
 have hb3 : Below W2.heap.size W2 (W2.alloc (.cells (Ej F.self t).toArray 95)):=ba
 refine rk (i:=25) rfl fun K hK=>?_
 go_simp
 refine hK.out _ (W2.alloc (.cells (Ej F.self t).toArray 95)) ⟨(hb3.block _ (Aa hH.1)).trans hH.1,(hb3.block _ (Aa hH.2.1)).trans hH.2.1,(hb3.block _ (Aa hH.2.2.1)).trans hH.2.2.1,(hb3.block _ (Aa hH.2.2.2.1)).trans hH.2.2.2.1,(hb3.block _ (Aa hH.2.2.2.2)).trans hH.2.2.2.2⟩ fun hH=>?_
 clear hK K
 have hcell : ∀ (j : Nat) (v : Value),(Ej F.self t)[j]? = some v -> (W2.alloc (.cells (Ej F.self t).toArray 95)).cell? ⟨W2.heap.size,0 + j,none⟩ = some v:=fun j v hj=>Et W2 (Ej F.self t) 95 j v hj
 have hbB:=hb1.drew.trans (hb2.mono hb1.size)
 have hbC:=hbB.trans (hb3.mono hbB.size)
 have hown3:=own_below hown hbC
 have hsz : (W2.alloc (.cells (Ej F.self t).toArray 95)).heap.size = W2.heap.size + 1:=by simp
 have hlo3 : BaseB.b0 <= (W2.alloc (.cells (Ej F.self t).toArray 95)).heap.size:=Nat.le_trans hlo hbC.size
 obtain ⟨zB,hzB⟩ : ∃ zB,W2.heap.size = zB:=⟨_,rfl⟩
 rw [hzB] at hcell ⊢
 generalize W2.alloc (.cells (Ej F.self t).toArray 95) = W3 at hb3 hH hcell hbC hown3 hsz hlo3 ⊢
 refine rk (i:=26) rfl fun K hK=>?_
 rw [if_pos (by rfl)]
 refine Fb W3 _ _ 32 rfl BaseB.b0 95 i z 6 56 ((Ab 32).trans Tryz.underlying32) hi hz hs hbb hzs (by omega) (.slice lg.a lg.n lg.c) N xs rfl hown3 ⟨zB,0,none⟩ 1 1 (Ej F.self t) rfl rfl (fun j v hj=>by rw [Addr.add_mid]; exact hcell j v hj) (fun v hv=>by simp only [Ej,List.mem_cons,List.not_mem_nil,or_false] at hv; rcases hv with rfl | rfl | rfl | rfl | rfl | rfl <;> rfl) (by omega) (by simp only [maxLen]; omega) (by omega) hlo3 _ rfl ?_
 intro g cap W4 hown4 hgrow hat hlt4 hold4
 have hk4 : ∀ (k : Nat) (c : Array Value) (ty : TypeId),W3.heap[k]? = ob c ty -> ty ≠ 95 -> W4.heap[k]? = ob c ty:=fun k c ty hk hty=>(hgrow.block k (Aa hk) (fun e=>by obtain ⟨cur,hcur⟩:=Cj hown3 k e.symm; exact Bc hcur hk (fun e=>hty e.symm) rfl)).trans hk
 refine hK.out _ _ ⟨hk4 _ _ _ hH.1 (by decide),hk4 _ _ _ hH.2.1 (by decide),hk4 _ _ _ hH.2.2.1 (by decide),hk4 _ _ _ hH.2.2.2.1 (by decide),hk4 _ _ _ hH.2.2.2.2 (by decide)⟩ fun hH=>?_
 clear hK K
 refine rk (i:=27) rfl fun K hK=>?_
 go_simp
 refine hK.out _ _ hH fun hH=>?_
 clear hK K
 refine tk (i:=28) (d:=some 36) (v:=pq F.m 1) rfl rfl (fun V hW=>?_) hH ?_
 ·clear hW hH
  go_simp
 have hm4:=hH.2.1
 have c1:=bq hm4 1 rfl
 have f1:=Ai hm4 1
 refine rl rfl fun K hK=>?_
 go_simp
 refine hK.out _ _ ?_
 clear hK K
 refine dk (by kernel_rfl) ?_ _
 show bodyPost TryQ.prog Tryz.f303 _ Exit.normal _ _
 simp [bodyPost,results,Tryz.results303,go_sem]
 have hg95 : (BaseB.lo 95) <= BaseB.b0:=by simp [BaseB.lo]
 refine ⟨⟨some ⟨g,0,none⟩,N + 1,cap⟩,rfl,Av hm4,?_,?_⟩
 · exact Cw hown4 fun k hk=>heap_setCell_other W4 ⟨F.m,1,none⟩ k _ (fun e=>by
    obtain ⟨cur,hcur⟩:=Cj hown4 k hk
    exact Bc hcur hm4 (by decide) e)
 · exact (Pres.of_below hbC [F.m] [95]).trans (((Pres.grown hgrow hg95 hown3 hold4).mono (fun k _ h=>by cases h) (fun t h=>h)).trans ((Pres.setCell W4 F.m 1 _).mono (fun k _ h=>h) (fun t h=>by cases h)))
end
section
attribute [local go_sem] wd
theorem Stk.kp {W W' : World} {sv : SV} {S : List Nat} (h : Stk W sv S) {B : List Nat} {T : List TypeId} (hp : Pres B T W W') (hT : 41 ∉ T) (hB : ∀ k ∈ B,∀ c,W.heap[k]? ≠ ob c 41) : Stk W' sv S :=
  ⟨Cw h.own fun g hg=>by
    obtain ⟨cur,hc⟩:=Cj h.own g hg
    exact (hp.obj hc hT (fun e=>hB g e cur hc)).trans hc.symm,h.num,Nat.le_trans h.low hp.size⟩
theorem LG.kp {W W' : World} {l m : Nat} {dm : Dm} {cr : Int} {L : AL} {J : List Value} {T : List TypeId} {B : List Nat} (h : LG W l m dm cr L J) (hp : Pres B T W W') (hT : 128 ∉ T /\ 262 ∉ T /\ 136 ∉ T) (hB : ∀ k ∈ B,∀ o,W.heap[k]? = some o -> ∃ c t f,o = .cells c t f /\ t ≠ 128 /\ t ≠ 262 /\ t ≠ 136) : LG W' l m dm cr L J :=
  h.pres (h.lj.pres hp ⟨hT.1,hT.2.1⟩ (fun k hk o ho=>let ⟨c,t,f,h1,h2,h3,_⟩:=hB k hk o ho; ⟨c,t,f,h1,h2,h3⟩)) hp hT.2.2 (fun k hk o ho=>let ⟨c,t,f,h1,_,_,h4⟩:=hB k hk o ho; ⟨c,t,f,h1,h4⟩)
theorem LG.kp1 {W W' : World} {l m b : Nat} {dm : Dm} {cr : Int} {L : AL} {J : List Value} {T : List TypeId} {c : Array Value} {t : TypeId} {f : Nat × Nat} (h : LG W l m dm cr L J) (hp : Pres [b] T W W') (hb : W.heap[b]? = some (.cells c t f)) (hT : 128 ∉ T /\ 262 ∉ T /\ 136 ∉ T) (ht : t ≠ 128 /\ t ≠ 262 /\ t ≠ 136) : LG W' l m dm cr L J :=
  h.kp hp hT fun k hk o ho=>by
    obtain rfl : k = b:=by simpa using hk
    rw [hb] at ho
    cases ho
    exact ⟨_,_,_,rfl,ht⟩
section
variable {W : World} {l m f : Nat} {dm : Dm} {cr : Int} {L : AL} {J : List Value} {F : Frm} {sv lg : SV} {back depth : Int}
theorem Arv (h : LG W l m dm cr L J) (hf : W.heap[f]? = ob (frC F sv) 225) (hm : W.heap[F.m]? = ob (Aj l lg back depth) 165) {q : Int × Nat × Ac} (hq : q ∈ L) (hself : q.1 = F.self) {T : List Nat} {k v : Nat} (hs : Stk W sv (T ++ [v,k])) (hk : k < M) (hv : v < M) (hv0 : v ≠ 0) (hk0 : Cy q.2.2.sl k = 0) (hJ : J.length < 1000000) :
    Calls TryQ.prog 263 #[pq f 0,.int .u8 45] W fun e w'=>e = .returned .nilIface /\ ∃ sv',w'.heap[f]? = ob (frC F sv') 225 /\ Stk w' sv' T /\ LG w' l m dm cr (Ce L q.2.1 { q.2.2 with sl:=D9 k v q.2.2.sl }) (J ++ [D7 q.2.1 k 0]) /\ w'.heap[F.m]? = ob (Aj l lg back depth) 165 /\ Pres [f,l,q.2.2.ms] [262] W w':=by
 have hs0 : Stk W.drew sv (T ++ [v] ++ [k]):=by rw [List.append_assoc]; exact hs.below (Below.refl _ _).drew
 have hne : F.m ≠ f:=Bc hm hf (by decide)
 go_enter TryQ.func263,Tryz.ntmps263
 go_wp2_with fail
 refine rq (fun V=>True) trivial fun hH=>?_
 refine tx 0 87 (pq f 0) hH ?_
 refine tx 1 88 (pq f 0) hH ?_
 refine tx 2 89 (pq f 0) hH ?_
 refine tx 3 90 (pq f 14) hH ?_
 refine tx 5 92 (pq f 0) hH ?_
 refine tx 6 93 (pq f 0) hH ?_
 refine tx 7 94 (pq f 14) hH ?_
 refine r1 4 fun K hK=>?_
 go_simp
 refine (Cz (W:=W.drew) (o:=14) (T:=T ++ [v]) (x:=k) hs0 hf (Fz F sv) (by decide)).mono ?_
 rintro e W1 ⟨rfl,hf1,hs1,hp1⟩
 go_wp2_with fail
 refine hK.out _ _ trivial fun hH=>?_
 clear hK K
 refine r1 8 fun K hK=>?_
 go_simp
 refine (Cz (o:=14) (T:=T) (x:=v) hs1 hf1 rfl (by decide)).mono ?_
 rintro e W2 ⟨rfl,hf2,hs2,hp2⟩
 go_wp2_with fail
 refine hK.out _ _ trivial fun hH=>?_
 clear hK K
 have hp12 : Pres [f] [] W W2:=(Pres.of_below (Below.refl _ _).drew [f] []).trans (hp1.trans hp2)
 have h2:=h.kp1 hp12 hf (by simp) (by decide)
 have hm2 : W2.heap[F.m]? = _:=hp12.obj hm (by show (165 : Nat) ∉ []; simp) (by simpa using hne)
 refine r1 9 fun K hK=>?_
 go_simp
 refine (An0 (sv:=⟨sv.a,T.length,sv.c⟩) h2 hf2 hm2 hq hself k v hk hv hv0 hk0 hJ).mono ?_
 rintro e W3 ⟨rfl,h3,hp3⟩
 go_wp2_with fail
 refine hK.out _ _ trivial fun hH=>?_
 clear hK K
 refine dn ?_
 go_wp2
 go_ret
 obtain ⟨jv,hl,_⟩:=h2.lj.ex
 obtain ⟨es,ec,hmo,_⟩:=h2.slot q hq
 have hnf : f ≠ l /\ f ≠ q.2.2.ms:=⟨Bc hf2 hl (by decide),Ci hf2 hmo (fun e=>by cases e)⟩
 have hnm : F.m ≠ l /\ F.m ≠ q.2.2.ms:=⟨Bc hm2 hl (by decide),Ci hm2 hmo (fun e=>by cases e)⟩
 refine ⟨rfl,⟨sv.a,T.length,sv.c⟩,hp3.obj hf2 (by show (225 : Nat) ∉ [262]; decide) (by simpa using hnf),hs2.kp hp3 (by decide) (fun k hk c hc=>?_),h3,hp3.obj hm2 (by show (165 : Nat) ∉ [262]; decide) (by simpa using hnm),?_⟩
 · simp only [List.mem_cons,List.not_mem_nil,or_false] at hk
   rcases hk with rfl | rfl
   · rw [hl] at hc; cases hc
   · rw [hmo] at hc; cases hc
 · exact (hp12.mono (fun k _ hk=>by simp at hk; simp [hk]) (fun t ht=>by cases ht)).trans (hp3.mono (fun k _ hk=>by simp at hk; simp; omega) (fun t ht=>ht))
theorem Aru (h : LG W l m dm cr L J) (hf : W.heap[f]? = ob (frC F sv) 225) (hm : W.heap[F.m]? = ob (Aj l lg back depth) 165) {N : Nat} {xs : List Value} (hown : W.ownsRow BaseB.b0 95 6 (.slice lg.a lg.n lg.c) N xs) (hN : N < 1000000) {T : List Nat} {a t : Nat} (hs : Stk W sv (T ++ [t,0,a])) :
    Calls TryQ.prog 263 #[pq f 0,.int .u8 50] W fun e w'=>e = .returned .nilIface /\ ∃ sv' lg',w'.heap[f]? = ob (frC F sv') 225 /\ Stk w' sv' T /\ LG w' l m dm cr L J /\ lg'.n = N + 1 /\ w'.heap[F.m]? = ob (Aj l lg' back depth) 165 /\ w'.ownsRow BaseB.b0 95 6 (.slice lg'.a lg'.n lg'.c) (N + 1) (xs ++ Ej F.self t) /\ Pres [f,F.m] [95] W w':=by
 have hs0 : Stk W.drew sv (T ++ [t,0] ++ [a]):=by rw [List.append_assoc]; exact hs.below (Below.refl _ _).drew
 have hne : F.m ≠ f:=Bc hm hf (by decide)
 have hlo : BaseB.b0 <= W.heap.size:=Nat.le_trans h.lj.lo (Nat.le_of_lt h.cell0.1)
 go_enter TryQ.func263,Tryz.ntmps263
 go_wp2_with fail
 refine rq (fun V=>True) trivial fun hH=>?_
 refine tx 0 99 (pq f 0) hH ?_
 refine tx 1 100 (pq f 0) hH ?_
 refine tx 2 101 (pq f 0) hH ?_
 refine tx 3 102 (pq f 14) hH ?_
 refine tx 5 104 (pq f 0) hH ?_
 refine tx 6 105 (pq f 0) hH ?_
 refine tx 7 106 (pq f 14) hH ?_
 refine tx 9 108 (pq f 0) hH ?_
 refine tx 10 109 (pq f 0) hH ?_
 refine tx 11 110 (pq f 14) hH ?_
 refine r1 4 fun K hK=>?_
 go_simp
 refine (Cz (W:=W.drew) (o:=14) (T:=T ++ [t,0]) (x:=a) hs0 hf (Fz F sv) (by decide)).mono ?_
 rintro e W1 ⟨rfl,hf1,hs1,hp1⟩
 rw [show T ++ [t,0] = T ++ [t] ++ [0] by simp] at hs1 hf1
 go_wp2_with fail
 refine hK.out _ _ trivial fun hH=>?_
 clear hK K
 refine r1 8 fun K hK=>?_
 go_simp
 refine (Cz (o:=14) (T:=T ++ [t]) (x:=0) hs1 hf1 rfl (by decide)).mono ?_
 rintro e W2 ⟨rfl,hf2,hs2,hp2⟩
 go_wp2_with fail
 refine hK.out _ _ trivial fun hH=>?_
 clear hK K
 refine r1 12 fun K hK=>?_
 go_simp
 refine (Cz (o:=14) (T:=T) (x:=t) hs2 hf2 rfl (by decide)).mono ?_
 rintro e W3 ⟨rfl,hf3,hs3,hp3⟩
 go_wp2_with fail
 refine hK.out _ _ trivial fun hH=>?_
 clear hK K
 have hp13 : Pres [f] [] W W3:=(Pres.of_below (Below.refl _ _).drew [f] []).trans (hp1.trans (hp2.trans hp3))
 have h3:=h.kp1 hp13 hf (by simp) (by decide)
 have hm3 : W3.heap[F.m]? = _:=hp13.obj hm (by show (165 : Nat) ∉ []; simp) (by simpa using hne)
 have hown3 : W3.ownsRow BaseB.b0 95 6 (.slice lg.a lg.n lg.c) N xs:=Cw hown fun g hg=>by obtain ⟨cur,hc⟩:=Cj hown g hg; exact (hp13.obj hc (by show (95 : Nat) ∉ []; simp) (by simpa using Bc hc hf (by decide))).trans hc.symm
 refine r1 13 fun K hK=>?_
 go_simp
 refine (Akl (sv:=⟨sv.a,T.length,sv.c⟩) hf3 hm3 hown3 hN (Nat.le_trans hlo hp13.size) a 0 t rfl).mono ?_
 rintro e W4 ⟨lg',rfl,hn4,hm4,hown4,hp4⟩
 go_wp2_with fail
 refine hK.out _ _ trivial fun hH=>?_
 clear hK K
 refine dn ?_
 go_wp2
 go_ret
 refine ⟨rfl,⟨sv.a,T.length,sv.c⟩,lg',hp4.obj hf3 (by show (225 : Nat) ∉ [95]; decide) (by simpa using Ne.symm hne),hs3.kp hp4 (by decide) (fun k hk c hc=>?_),h3.kp1 hp4 hm3 (by decide) (by decide),hn4,hm4,hown4,?_⟩
 · obtain rfl : k = F.m:=by simpa using hk
   rw [hm3] at hc
   cases hc
 · exact (hp13.mono (fun k _ hk=>by simp at hk; simp [hk]) (fun t ht=>by cases ht)).trans (hp4.mono (fun k _ hk=>by simp at hk; simp [hk]) (fun t ht=>ht))
end
end
section
attribute [local go_sem] wd
theorem Py (t : Nat) (ht : t < 4294967296) (W : World) :
    Calls TryQ.prog 306 #[wd t] W fun e w'=>e = .returned (.int .i64 (t : Int)) /\ Below W.heap.size W w':=by
 obtain ⟨h0,_,_,_⟩:=J2 t (by omega)
 have w1 : IntKind.u32.wrap (t : Int) = (t : Int):=by simp only [IntKind.wrap,IntKind.bits,IntKind.signed,Bool.false_and,Bool.false_eq_true,if_false]; omega
 have w2 : IntKind.i64.wrap (t : Int) = (t : Int):=IntWalk.i64_in _ ⟨by omega,by omega⟩
 go_enter TryQ.func306,Tryz.ntmps306
 go_wp2
 go_ret
 exact ⟨rfl,ba⟩
theorem Aov {W : World} (v n : Nat) (hn : n < 1000000) (hv : v < n) :
    Calls TryQ.prog 326 #[wd v,.int .i64 (n : Int)] W fun e w'=>e = .returned (.tuple #[.int .i64 (v : Int),.bool true]) /\ Below W.heap.size W w':=by
 rw [Hu v (by omega)]
 exact Ajl v n hn hv
theorem handed {W : World} {f : Nat} {F : Frm} {sv : SV} {T : List Nat} {g G : Nat} (hf : W.heap[f]? = ob (frC F sv) 225) (hs : Stk W sv (T ++ [g])) (hG : F.gas = (G : Int)) (hG' : G < 900000) (hg : g <= G) :
    Calls TryQ.prog 322 #[pq f 0] W fun e w'=>e = .returned (.int .i64 (g : Int)) /\ Below W.heap.size W w':=by
 have hw : IntKind.i64.wrap ((G : Int) + 1) = ((G + 1 : Nat) : Int):=by rw [IntWalk.i64_in _ ⟨by omega,by omega⟩]; rfl
 go_enter TryQ.func322,Tryz.ntmps322
 go_wp2_with fail
 refine rq (fun V=>V.heap[f]? = ob (frC F sv) 225) hf fun hH=>?_
 refine tx 0 6 (pq f 0) hH ?_
 refine tx 1 7 (pq f 0) hH ?_
 refine tx 2 8 (pq f 14) hH ?_
 refine tv 3 9 (.slice sv.a sv.n sv.c) (fun _ hW=>bq hW 14 rfl) hH ?_
 refine tx 5 11 (pq f 0) hH ?_
 refine tx 6 12 (pq f 0) hH ?_
 refine tx 7 13 (pq f 13) hH ?_
 refine td (i:=8) (d:=some 14) (v:=.int .i64 (G : Int)) rfl rfl (fun V hW=>?_) hH ?_
 ·have k0:=bq hW 13 rfl
  rw [hG] at k0
  clear hW hH
  go_simp
 refine tx 9 15 (.int .i64 ((G + 1 : Nat) : Int)) hH ?_
 refine r1 4 fun K hK=>?_
 go_simp
 refine (Fg (hs.below (Below.refl _ _).drew) 1 (by decide) (j:=T.length) (x:=g) (by simp) (by simp)).mono ?_
 rintro e W1 ⟨rfl,hb1⟩
 go_wp2_with fail
 refine hK.out _ _ ((hb1.block _ (Aa hH)).trans hH) fun hH=>?_
 clear hK K
 refine r1 10 fun K hK=>?_
 go_simp
 refine (Aov g (G + 1) (by omega) (by omega)).mono ?_
 rintro e W2 ⟨rfl,hb2⟩
 go_wp2_with fail
 refine hK.out _ _ ((hb2.block _ (Aa hH)).trans hH) fun hH=>?_
 clear hK K
 refine tx 11 5 (.tuple #[.int .i64 (g : Int),.bool true]) hH ?_
 refine tx 12 17 (.int .i64 (g : Int)) hH ?_
 refine tx 13 18 (.bool true) hH ?_
 refine tx 14 3 (.int .i64 (g : Int)) hH ?_
 refine tx 15 4 (.bool true) hH ?_
 refine dn ?_
 go_wp2
 go_ret
 exact ⟨rfl,((Below.refl _ _).drew.trans hb1).trans (hb2.mono hb1.size)⟩
theorem Zp {W : World} {f l m : Nat} {dm : Dm} {cr : Int} {L : AL} {J : List Value} {F : Frm} {sv lg : SV} {back depth : Int} {T : List Nat} {v t g : Nat} (h : LG W l m dm cr L J) (hf : W.heap[f]? = ob (frC F sv) 225) (hm : W.heap[F.m]? = ob (Aj l lg back depth) 165) (hs : Stk W sv (T ++ [v,t,g])) (hv : v < M) (ht : t < 4294967296) {q : Int × Nat × Ac} (hq : q ∈ L) (hqt : q.1 = (t : Int)) {X : Int} (hX : (v = 0 /\ X = 0) \/ (v ≠ 0 /\ X = 9000)) :
    Calls TryQ.prog 323 #[pq f 0] W fun e w'=>e = .returned (.int .i64 X) /\ Below W.heap.size W w':=by
 have h1:=Fg hs 3 (by decide) (j:=T.length) (x:=v) (by simp) (by simp)
 have hhas:=fun (w : World) (hw : LG w l m dm cr L J)=>Adf hw hq
 rw [hqt] at hhas
 have c14:=bq hf 14 rfl
 have hz:=U1 v hv
 have hw9 : IntKind.i64.wrap 9000 = 9000:=by decide
 rcases hX with ⟨hv0,rfl⟩ | ⟨hv0,rfl⟩
 · rw [decide_eq_true hv0] at hz
   clear hv0
   go_enter TryQ.func323,Tryz.ntmps323
   go_wp2_with fail
   refine h1.mono ?_
   rintro e w1 ⟨rfl,hb1⟩
   clear h1 c14
   go_wp2_with fail
   refine rq (fun V=>V.heap[f]? = ob (frC F sv) 225 /\ V.heap[F.m]? = ob (Aj l lg back depth) 165) ⟨(hb1.block _ (Aa hf)).trans hf,(hb1.block _ (Aa hm)).trans hm⟩ fun hH=>?_
   refine tx 0 13 (pq f 0) hH ?_
   refine tx 1 14 (pq f 0) hH ?_
   refine tx 2 15 (pq f 0) hH ?_
   refine tv 3 16 (pq F.m 0) (fun _ hW=>bq (hW.1) 0 rfl) hH ?_
   refine tx 4 17 (pq F.m 0) hH ?_
   refine tx 5 18 (pq F.m 0) hH ?_
   refine tv 6 19 (pq l 0) (fun _ hW=>bq (hW.2) 0 rfl) hH ?_
   refine tx 7 20 (pq f 0) hH ?_
   refine tx 8 21 (pq f 0) hH ?_
   refine tx 9 22 (pq f 14) hH ?_
   refine tv 10 23 (.slice sv.a sv.n sv.c) (fun _ hW=>bq (hW.1) 14 rfl) hH ?_
   refine r1 11 fun K hK=>?_
   go_simp
   refine (Fg (hs.below hb1.drew) 2 (by decide) (j:=T.length + 1) (x:=t) (by simp) (by simp)).mono ?_
   rintro e W2 ⟨rfl,hb2⟩
   go_wp2_with fail
   refine hK.out _ _ ⟨(hb2.block _ (Aa hH.1)).trans hH.1,(hb2.block _ (Aa hH.2)).trans hH.2⟩ fun hH=>?_
   clear hK K
   refine r1 12 fun K hK=>?_
   go_simp
   refine (Py t ht W2).mono ?_
   rintro e W3 ⟨rfl,hb3⟩
   go_wp2_with fail
   refine hK.out _ _ ⟨(hb3.block _ (Aa hH.1)).trans hH.1,(hb3.block _ (Aa hH.2)).trans hH.2⟩ fun hH=>?_
   clear hK K
   have hbA:=hb1.drew.trans (hb2.mono hb1.size)
   have hbB:=hbA.trans (hb3.mono hbA.size)
   refine r1 13 fun K hK=>?_
   go_simp
   refine (hhas W3 (h.below hbB)).mono ?_
   rintro e W4 ⟨rfl,hw4⟩
   replace hw4:=hw4.symm
   subst hw4
   go_wp2_with fail
   refine hK.out _ _ hH fun hH=>?_
   clear hK K
   refine tx 14 27 (.bool false) hH ?_
   refine dn ?_
   go_wp2
   go_ret
   exact ⟨rfl,hbB⟩
 · rw [decide_eq_false hv0] at hz
   clear hv0
   go_enter TryQ.func323,Tryz.ntmps323
   go_wp2_with fail
   refine h1.mono ?_
   rintro e w1 ⟨rfl,hb1⟩
   clear h1 c14
   go_wp2_with fail
   refine rq (fun V=>V.heap[f]? = ob (frC F sv) 225 /\ V.heap[F.m]? = ob (Aj l lg back depth) 165) ⟨(hb1.block _ (Aa hf)).trans hf,(hb1.block _ (Aa hm)).trans hm⟩ fun hH=>?_
   refine tx 0 13 (pq f 0) hH ?_
   refine tx 1 14 (pq f 0) hH ?_
   refine tx 2 15 (pq f 0) hH ?_
   refine tv 3 16 (pq F.m 0) (fun _ hW=>bq (hW.1) 0 rfl) hH ?_
   refine tx 4 17 (pq F.m 0) hH ?_
   refine tx 5 18 (pq F.m 0) hH ?_
   refine tv 6 19 (pq l 0) (fun _ hW=>bq (hW.2) 0 rfl) hH ?_
   refine tx 7 20 (pq f 0) hH ?_
   refine tx 8 21 (pq f 0) hH ?_
   refine tx 9 22 (pq f 14) hH ?_
   refine tv 10 23 (.slice sv.a sv.n sv.c) (fun _ hW=>bq (hW.1) 14 rfl) hH ?_
   refine r1 11 fun K hK=>?_
   go_simp
   refine (Fg (hs.below hb1.drew) 2 (by decide) (j:=T.length + 1) (x:=t) (by simp) (by simp)).mono ?_
   rintro e W2 ⟨rfl,hb2⟩
   go_wp2_with fail
   refine hK.out _ _ ⟨(hb2.block _ (Aa hH.1)).trans hH.1,(hb2.block _ (Aa hH.2)).trans hH.2⟩ fun hH=>?_
   clear hK K
   refine r1 12 fun K hK=>?_
   go_simp
   refine (Py t ht W2).mono ?_
   rintro e W3 ⟨rfl,hb3⟩
   go_wp2_with fail
   refine hK.out _ _ ⟨(hb3.block _ (Aa hH.1)).trans hH.1,(hb3.block _ (Aa hH.2)).trans hH.2⟩ fun hH=>?_
   clear hK K
   have hbA:=hb1.drew.trans (hb2.mono hb1.size)
   have hbB:=hbA.trans (hb3.mono hbA.size)
   refine r1 13 fun K hK=>?_
   go_simp
   refine (hhas W3 (h.below hbB)).mono ?_
   rintro e W4 ⟨rfl,hw4⟩
   replace hw4:=hw4.symm
   subst hw4
   go_wp2_with fail
   refine hK.out _ _ hH fun hH=>?_
   clear hK K
   refine tx 14 27 (.bool false) hH ?_
   refine dn ?_
   go_wp2
   go_ret
   exact ⟨rfl,hbB⟩
theorem Ajr {W : World} {f l m : Nat} {dm : Dm} {cr : Int} {L : AL} {J : List Value} {F : Frm} {sv lg : SV} {back depth : Int} {T : List Nat} {v t g G : Nat} (h : LG W l m dm cr L J) (hf : W.heap[f]? = ob (frC F sv) 225) (hm : W.heap[F.m]? = ob (Aj l lg back depth) 165) (hs : Stk W sv (T ++ [v,t,g])) (hv : v < M) (ht : t < 4294967296) {q : Int × Nat × Ac} (hq : q ∈ L) (hqt : q.1 = (t : Int)) (hG : F.gas = (G : Int)) (hG' : G < 900000) (hg : g <= G) {X : Int} (hX : (v = 0 /\ X = 0) \/ (v ≠ 0 /\ X = 9000)) :
    Calls TryQ.prog 292 #[pq f 0,.int .u8 61] W fun e w'=>e = .returned (.int .i64 ((g : Int) + X)) /\ Below W.heap.size W w':=by
 have h1:=handed (T:=T ++ [v,t]) hf (by simpa using hs) hG hG' hg
 have hw : IntKind.i64.wrap ((g : Int) + X) = (g : Int) + X:=IntWalk.i64_in _ ⟨by omega,by omega⟩
 go_enter TryQ.func292,Tryz.ntmps292
 go_wp2_with fail
 refine h1.mono ?_
 rintro e w1 ⟨rfl,hb1⟩
 clear h1
 have h2:=Zp (h.below hb1) ((hb1.block _ (Aa hf)).trans hf) ((hb1.block _ (Aa hm)).trans hm) (hs.below hb1) hv ht hq hqt hX
 clear hX
 go_wp2_with fail
 refine h2.mono ?_
 rintro e w2 ⟨rfl,hb2⟩
 clear h2
 go_wp2
 go_ret
 exact ⟨rfl,hb1.trans (hb2.mono hb1.size)⟩
theorem Ajq {W : World} {f : Nat} {F : Frm} {sv : SV} {T : List Nat} {g G : Nat} (hf : W.heap[f]? = ob (frC F sv) 225) (hs : Stk W sv (T ++ [g])) (hG : F.gas = (G : Int)) (hG' : G < 900000) (hg : g <= G) :
    Calls TryQ.prog 292 #[pq f 0,.int .u8 62] W fun e w'=>e = .returned (.int .i64 (g : Int)) /\ Below W.heap.size W w':=by
 have h1:=handed hf hs hG hG' hg
 go_enter TryQ.func292,Tryz.ntmps292
 go_wp2_with fail
 refine h1.mono ?_
 rintro e w1 ⟨rfl,hb1⟩
 go_wp2
 go_ret
 exact ⟨rfl,hb1⟩
section
variable {W : World} {l m mc : Nat} {dm : Dm} {cr : Int} {L : AL} {J : List Value} {lg : SV} {back depth : Int}
theorem Agl (h : LG W l m dm cr L J) {q : Int × Nat × Ac} (hq : q ∈ L) (x : Nat) (hx : x < M) (hgt : q.2.2.bal < x) (h3 : 3 < W.heap.size) {E : Value} (hE : W.cell? ⟨3,0,none⟩ = some E) :
    Calls TryQ.prog 175 #[pq l 0,.int .i64 q.1,wd x] W fun e w'=>e = .returned E /\ Below W.heap.size W w':=by
 have hbx : Below W.heap.size W (W.alloc (.cells (wq x) 41)):=ba
 have hn:=Al W (.cells (wq x) 41)
 have hL1:=h.below hbx
 have hd : decide (q.2.2.bal < x) = true:=by simp; omega
 go_enter TryQ.func175,Tryz.ntmps175
 go_wp2_with fail
 change Code.wp _ _ _ _ (W.alloc (.cells (wq x) 41))
 refine rq (fun V=>V.heap[W.heap.size]? = ob (wq x) 41) hn fun hH=>?_
 refine tx 0 7 (pq l 0) hH ?_
 refine tx 1 8 (.int .i64 q.1) hH ?_
 refine tv 3 10 (.agg (wq x)) (fun _ hW=>aq (bq hW 0 rfl) (aq (bq hW 1 rfl) (aq (bq hW 2 rfl) (bq hW 3 rfl)))) hH ?_
 refine r1 2 fun K hK=>?_
 go_simp
 refine (Ny (hL1.below (Below.refl _ _).drew) hq).mono ?_
 rintro e W1 ⟨rfl,hb1⟩
 go_wp2_with fail
 refine hK.out _ _ ((hb1.block _ (Aa hH)).trans hH) fun hH=>?_
 clear hK K
 refine r1 4 fun K hK=>?_
 go_simp
 refine (less q.2.2.bal x (h.bal q hq) hx _).mono ?_
 rintro e W2 ⟨rfl,hb2⟩
 go_wp2_with fail
 refine hK.out _ _ ((hb2.block _ (Aa hH)).trans hH) fun hH=>?_
 clear hK K
 refine dn ?_
 have hbA:=hbx.trans (((Below.refl _ _).drew.trans (hb1.trans (hb2.mono hb1.size))).mono hbx.size)
 have hE2:=(hbA.cell (p:=⟨3,0,none⟩) h3).trans hE
 go_wp2
 go_ret
 exact ⟨rfl,hbA⟩
theorem Y3 (h : LG W l m dm cr L J) (hm : W.heap[mc]? = ob (Aj l lg back depth) 165) (hdp : depth ≠ 64) {q : Int × Nat × Ac} (hq : q ∈ L) (x : Nat) (hx : x < M) (hgt : q.2.2.bal < x) (h3 : 3 < W.heap.size) {E : Value} (hE : W.cell? ⟨3,0,none⟩ = some E) :
    Calls TryQ.prog 133 #[pq mc 0,.int .i64 q.1,wd x] W fun e w'=>e = .returned E /\ Below W.heap.size W w':=by
 have hbx : Below W.heap.size W (W.alloc (.cells (wq x) 41)):=ba
 have hn:=Al W (.cells (wq x) 41)
 have hL1:=h.below hbx
 have hml:=Aa hm
 have hm1:=Aw (p:=.cells (wq x) 41) hm
 have c3:=bq hm 3 rfl
 go_enter TryQ.func133,Tryz.ntmps133
 go_wp2_with fail
 clear c3
 change Code.wp _ _ _ _ (W.alloc (.cells (wq x) 41))
 refine rq (fun V=>V.heap[W.heap.size]? = ob (wq x) 41 /\ V.heap[mc]? = ob (Aj l lg back depth) 165) ⟨hn,hm1⟩ fun hH=>?_
 refine tx 0 13 (pq mc 0) hH ?_
 refine tx 1 14 (pq mc 0) hH ?_
 refine tx 2 15 (pq mc 0) hH ?_
 refine tv 3 16 (pq l 0) (fun _ hW=>bq (hW.2) 0 rfl) hH ?_
 refine tx 4 17 (.int .i64 q.1) hH ?_
 refine tv 5 18 (.agg (wq x)) (fun _ hW=>aq (bq (hW.1) 0 rfl) (aq (bq (hW.1) 1 rfl) (aq (bq (hW.1) 2 rfl) (bq (hW.1) 3 rfl)))) hH ?_
 refine r1 6 fun K hK=>?_
 go_simp
 refine (Agl (hL1.below (Below.refl _ _).drew) hq x hx hgt (Nat.lt_of_lt_of_le h3 hbx.drew.size) ((hbx.drew.cell (p:=⟨3,0,none⟩) h3).trans hE)).mono ?_
 rintro e W1 ⟨rfl,hb1⟩
 go_wp2_with fail
 refine hK.out _ _ ⟨(hb1.block _ (Aa hH.1)).trans hH.1,(hb1.block _ (Aa hH.2)).trans hH.2⟩ fun hH=>?_
 clear hK K
 refine tx 7 6 E hH ?_
 refine dn ?_
 go_wp2
 go_ret
 exact ⟨rfl,hbx.drew.trans (hb1.mono hbx.size)⟩
theorem Agd (h : LG W l m dm cr L J) (hm : W.heap[mc]? = ob (Aj l lg back depth) 165) (hdp : depth ≠ 64) {q : Int × Nat × Ac} (hq : q ∈ L) (dst : Int) (x : Nat) (hx : x < M) (hgt : q.2.2.bal < x) (gas : Int) (data : SV) (h3 : 3 < W.heap.size) {et : TypeId} {ev : Value} (hE : W.cell? ⟨3,0,none⟩ = some (.iface et ev)) :
    Calls TryQ.prog 92 #[pq mc 0,.agg (Eb q.1 dst x gas data)] W fun e w'=>e = .returned (.iface 217 (.agg #[.int .i64 gas,.iface et ev])) /\ Below W.heap.size W w':=by
 have hb0 : Below W.heap.size W (W.alloc (.cells (Eb q.1 dst x gas data) 172)):=ba
 have hc0:=Al W (.cells (Eb q.1 dst x gas data) 172)
 have hmay:=Y3 (h.below hb0) (Aw (p:=.cells (Eb q.1 dst x gas data) 172) hm) hdp hq x hx hgt (Nat.lt_of_lt_of_le h3 hb0.size) ((hb0.cell (p:=⟨3,0,none⟩) h3).trans hE)
 go_enter TryQ.func92,Tryz.ntmps92
 unfold Eb at hb0 hc0 hmay ⊢
 go_wp2_with fail
 refine hmay.mono ?_
 rintro e w1 ⟨rfl,hb1⟩
 clear hmay
 have hc1:=bk hb1 hc0
 have hcl:=Aa hc1
 have c6:=bq hc1 6 rfl
 go_wp2
 go_ret
 exact ⟨rfl,hb0.trans (hb1.mono hb0.size)⟩
theorem R3 {d li : Addr} {cd cl : Array Value} {ta tl : TypeId} {g : Int} (c0 : W.cell? ⟨0,0,none⟩ = some (.iface 407 (.pointer (some d)))) (c3 : W.cell? ⟨3,0,none⟩ = some (.iface 407 (.pointer (some li)))) (hl3 : 3 < W.heap.size) (hd : W.heap[d.block]? = ob cd ta) (hli : W.heap[li.block]? = ob cl tl) (hne : li ≠ d) :
    Calls TryQ.prog 370 #[.agg #[.int .i64 g,.iface 407 (.pointer (some li))]] W fun e w'=>e = .returned (.int .i64 g) /\ Below W.heap.size W w':=by
 have hb : Below W.heap.size W (W.alloc (.cells #[.int .i64 g,.iface 407 (.pointer (some li))] 217)):=ba
 have d0:=(hb.cell (p:=⟨0,0,none⟩) (by show 0 < _; omega)).trans c0
 have d3:=(hb.cell (p:=⟨3,0,none⟩) hl3).trans c3
 have i1:=Ajh hne ((hb.block _ (Aa hli)).trans hli) ((hb.block _ (Aa hd)).trans hd)
 have i2:=Al1 li (W.alloc (.cells #[.int .i64 g,.iface 407 (.pointer (some li))] 217))
 clear c0 c3 hd hli
 go_enter TryQ.func370,Tryz.ntmps370
 go_wp2_with fail
 refine i1.mono ?_
 rintro e w1 ⟨rfl,rfl⟩
 clear i1
 go_wp2_with fail
 refine i2.mono ?_
 rintro e w1 ⟨rfl,rfl⟩
 clear i2
 go_wp2
 go_ret
 exact ⟨rfl,hb⟩
end
theorem Aec (w : World) : Calls TryQ.prog 290 #[.int .u8 255] w fun e w'=>e = .returned (.tuple #[.agg #[.int .i64 0,.int .i64 0,.int .i64 0],.bool false]) /\ Below w.heap.size w w':=by
 go_enter TryQ.func290,Tryz.ntmps290
 go_wp2
 simp [bodyPost,results,Tryz.results290,go_sem]
 first | exact (Below.refl _ _).alloc (Nat.le_refl _) _ | exact ba.alloc (by simp) _
theorem Aih {W : World} {f : Nat} {et : TypeId} {ev : Value} (hE : W.cell? ⟨5,0,none⟩ = some (.iface et ev)) (h5 : 5 < W.heap.size) :
    Calls TryQ.prog 262 #[pq f 0,.int .u8 255] W fun e w'=>e = .returned (.iface et ev) /\ Below W.heap.size W w':=by
 have hsh:=Aec W
 go_enter TryQ.func262,Tryz.ntmps262
 go_wp2_with fail
 refine hsh.mono ?_
 rintro e w1 ⟨rfl,hb1⟩
 clear hsh
 have hb2 : Below W.heap.size W (w1.alloc (.cells #[.int .i64 0,.int .i64 0,.int .i64 0] 369)):=hb1.trans (ba.mono hb1.size)
 have hE2:=(hb2.cell (p:=⟨5,0,none⟩) h5).trans hE
 go_wp2
 go_ret
 exact ⟨rfl,hb2⟩
end
end Go.Mark
