import Derived.Test.YtbephahokhnccaaGreatDoorXL19toL13
set_option linter.unusedSectionVars false
set_option maxRecDepth 100000
set_option maxHeartbeats 8000000
namespace Go.Mark
open Go.RowKit Go.Proofs
variable [BaseB]
attribute [local go_sem] wd
section
variable {W : World} {f : Nat} {F : Frm} {sv : SV}
theorem Al0 {T : List Nat} {c a t g : Nat} (hf : W.heap[f]? = ob (frC F sv) 225) (hs : Stk W sv (T ++ [0,c,0,a,t,g])) (ht : t < 4294967296) (hg : g < 1000000) {Ψ : SV -> TypeId -> Value -> World -> Prop} {Ω : World -> Prop}
    (hcal : ∀ w sv',w.heap[f]? = ob (frC F sv') 225 -> Stk w sv' (T ++ [0,c]) -> Pres [f] [] W w -> Calls TryQ.prog 344 #[pq F.m 0,.int .i64 (t : Int),pq f 0,.int .i64 (g : Int),.slice none 0 0] w fun e w'=>∃ tt v,e = .returned (.iface tt v) /\ Ψ sv' tt v w')
    (hΨ0 : ∀ sv' tt v w,Ψ sv' tt v w -> w.cell? ⟨f,0,none⟩ = some (pq F.m 0) /\ w.cell? ⟨f,6,none⟩ = some (.int .i64 F.self))
    (hcb : ∀ sv' tt v w,Ψ sv' tt v w -> Calls TryQ.prog 342 #[pq f 0,.iface tt v] w fun e w'=>e = .returned (.tuple #[]) /\ Ω w')
    (hΩ0 : ∀ w,Ω w -> w.cell? ⟨f,0,none⟩ = some (pq F.m 0) /\ w.cell? ⟨f,6,none⟩ = some (.int .i64 F.self)) :
    Calls TryQ.prog 333 #[pq f 0] W fun e w'=>e = .returned (.tuple #[]) /\ Ω w':=by
 have hs0 : Stk W.drew sv (T ++ [0,c,0,a,t] ++ [g]):=by rw [List.append_assoc]; exact hs.below (Below.refl _ _).drew
 obtain ⟨hl0,_,_,_⟩:=J2 g (by omega)
 have hwg : IntKind.i64.wrap (g : Int) = (g : Int):=IntWalk.i64_in _ ⟨by omega,by omega⟩
 go_enter TryQ.func333,Tryz.ntmps333
 go_wp2_with fail
 refine rq (fun V=>True) trivial fun hH=>?_
 refine tx 0 4 (pq f 0) hH ?_
 refine tx 1 5 (pq f 0) hH ?_
 refine tx 2 6 (pq f 14) hH ?_
 refine tx 6 10 (pq f 0) hH ?_
 refine tx 7 11 (pq f 0) hH ?_
 refine tx 8 12 (pq f 14) hH ?_
 refine r1 3 fun K hK=>?_
 go_simp
 refine (Cz (W:=W.drew) (o:=14) (T:=T ++ [0,c,0,a,t]) (x:=g) hs0 hf (Fz F sv) (by decide)).mono ?_
 rintro e W1 ⟨rfl,hf1,hs1,hp1⟩
 rw [show T ++ [0,c,0,a,t] = T ++ [0,c,0,a] ++ [t] by simp] at hs1 hf1
 go_wp2_with fail
 refine hK.out _ _ trivial fun hH=>?_
 clear hK K
 refine td (i:=4) (d:=some 8) (v:=.int .u64 (lim g 0)) rfl rfl (fun V hW=>?_) hH ?_
 ·have hix:=Acn
  clear hW hH
  go_simp
 refine tx 5 9 (.int .i64 (g : Int)) hH ?_
 refine r1 9 fun K hK=>?_
 go_simp
 refine (Cz (o:=14) (T:=T ++ [0,c,0,a]) (x:=t) hs1 hf1 rfl (by decide)).mono ?_
 rintro e W2 ⟨rfl,hf2,hs2,hp2⟩
 go_wp2_with fail
 refine hK.out _ _ trivial fun hH=>?_
 clear hK K
 refine r1 10 fun K hK=>?_
 go_simp
 refine (Py t ht W2).mono ?_
 rintro e W3 ⟨rfl,hb3⟩
 go_wp2_with fail
 refine hK.out _ _ trivial fun hH=>?_
 clear hK K
 refine tx 11 2 (.int .i64 (g : Int)) hH ?_
 refine tx 12 3 (.int .i64 (t : Int)) hH ?_
 refine dn ?_
 have hf3 : W3.heap[f]? = ob (frC F ⟨sv.a,(T ++ [0,c,0,a]).length,sv.c⟩) 225:=bk hb3 hf2
 have hs3 : Stk W3 ⟨sv.a,(T ++ [0,c,0,a]).length,sv.c⟩ (T ++ [0,c] ++ [0,a]):=by rw [List.append_assoc]; exact hs2.below hb3
 go_wp2_with fail
 refine rq (fun V=>V.cell? ⟨f,0,none⟩ = some (pq F.m 0)) ((Ad hf3 0).trans rfl) fun hH=>?_
 refine tx 0 15 (pq f 0) hH ?_
 refine tx 1 16 (pq f 0) hH ?_
 refine tx 2 17 (pq f 0) hH ?_
 refine tx 3 18 (pq f 0) hH ?_
 refine td (i:=4) (d:=some 19) (v:=pq F.m 0) rfl rfl (fun V hW=>?_) hH ?_
 ·have k0:=hW
  clear hW hH
  go_simp
 refine tx 5 20 (.int .i64 (t : Int)) hH ?_
 refine tx 6 21 (pq f 0) hH ?_
 refine tx 7 22 (.int .i64 (g : Int)) hH ?_
 refine tx 8 23 (pq f 0) hH ?_
 refine r1 9 fun K hK=>?_
 go_simp
 refine (Ef (W:=W3.drew) (T:=T ++ [0,c]) (a:=a) hf3 (hs3.below (Below.refl _ _).drew)).mono ?_
 rintro e W4 ⟨sv4,rfl,hf4,hs4,hp4⟩
 go_wp2_with fail
 refine hK.out _ _ ((Ad hf4 0).trans rfl) fun hH=>?_
 clear hK K
 have hpA : Pres [f] [] W W4:=((Pres.of_below (Below.refl _ _).drew [f] []).trans (hp1.trans hp2)).trans ((Pres.of_below hb3 _ _).dr.trans hp4)
 refine r1 10 fun K hK=>?_
 go_simp
 refine (hcal W4 sv4 hf4 hs4 hpA).mono ?_
 rintro e W5 ⟨tt,vv,rfl,hΨ⟩
 go_wp2_with fail
 refine hK.out _ _ (hΨ0 _ _ _ _ hΨ).1 fun hH=>?_
 clear hK K
 refine r1 11 fun K hK=>?_
 go_simp
 refine (hcb _ _ _ _ hΨ).mono ?_
 rintro e W6 ⟨rfl,hΩ⟩
 go_wp2_with fail
 refine hK.out _ _ (hΩ0 _ hΩ).1 fun hH=>?_
 clear hK K
 refine dn ?_
 go_wp2
 simp [bodyPost,results,Tryz.results333,go_sem]
 exact hΩ
theorem Adx {w : World} {b : Nat} {c : Array Value} {t : TypeId} {z : Nat} {v0 v1 v2 v3 : Value} (h : w.heap[b]? = ob c t) (hne : b ≠ z) : ((((w.setCell ⟨z,0,none⟩ v0).setCell ⟨z,1,none⟩ v1).setCell ⟨z,2,none⟩ v2).setCell ⟨z,3,none⟩ v3).heap[b]? = ob c t:=Ae (Ae (Ae (Ae h hne) hne) hne) hne
theorem Agn {w : World} {sv : SV} {S : List Nat} {z : Nat} {v0 v1 v2 v3 : Value} (h : Stk w sv S) (hne : ∀ k,(Value.slice sv.a sv.n sv.c).ownBlock = some k -> k ≠ z) : Stk ((((w.setCell ⟨z,0,none⟩ v0).setCell ⟨z,1,none⟩ v1).setCell ⟨z,2,none⟩ v2).setCell ⟨z,3,none⟩ v3) sv S :=
 ⟨Cw h.own fun g hg=>by
   obtain ⟨cur,hc⟩:=Cj h.own g hg
   exact (Adx hc (hne g hg)).trans hc.symm,h.num,Nat.le_trans h.low (Ei w z v0 v1 v2 v3).size⟩
theorem Agp {W w : World} {f z : Nat} {v0 v1 v2 v3 : Value} (h : Pres [f] [] W w) (hz : W.heap.size <= z) : Pres [f] [] W ((((w.setCell ⟨z,0,none⟩ v0).setCell ⟨z,1,none⟩ v1).setCell ⟨z,2,none⟩ v2).setCell ⟨z,3,none⟩ v3) :=
 h.thenx (Ei w z v0 v1 v2 v3) (fun k hk=>by simp at hk; right; omega)
theorem call332 {T : List Nat} {c a v t g : Nat} {gas : Int} (hf : W.heap[f]? = ob (frC F sv) 225) (hs : Stk W sv (T ++ [0,c,0,a,v,t,g])) (hv : v < M) (ht : t < 4294967296) (hg : g < 1000000) (hgas : (v = 0 /\ gas = (g : Int)) \/ (v ≠ 0 /\ gas = (g : Int) + 2300)) {Ψ : SV -> TypeId -> Value -> World -> Prop} {Ω : World -> Prop}
    (hcal : ∀ w sv',w.heap[f]? = ob (frC F sv') 225 -> Stk w sv' (T ++ [0,c]) -> Pres [f] [] W w -> Calls TryQ.prog 92 #[pq F.m 0,.agg (Eb F.self (t : Int) v gas ⟨none,0,0⟩)] w fun e w'=>∃ tt v,e = .returned (.iface tt v) /\ Ψ sv' tt v w')
    (hΨ0 : ∀ sv' tt v w,Ψ sv' tt v w -> w.cell? ⟨f,0,none⟩ = some (pq F.m 0) /\ w.cell? ⟨f,6,none⟩ = some (.int .i64 F.self))
    (hcb : ∀ sv' tt v w,Ψ sv' tt v w -> Calls TryQ.prog 342 #[pq f 0,.iface tt v] w fun e w'=>e = .returned (.tuple #[]) /\ Ω w')
    (hΩ0 : ∀ w,Ω w -> w.cell? ⟨f,0,none⟩ = some (pq F.m 0) /\ w.cell? ⟨f,6,none⟩ = some (.int .i64 F.self)) :
    Calls TryQ.prog 332 #[pq f 0] W fun e w'=>e = .returned (.tuple #[]) /\ Ω w':=by
 have hs0 : Stk W.drew sv (T ++ [0,c,0,a,v,t] ++ [g]):=by rw [List.append_assoc]; exact hs.below (Below.refl _ _).drew
 obtain ⟨hl0,_,_,_⟩:=J2 g (by omega)
 have hwg : IntKind.i64.wrap (g : Int) = (g : Int):=IntWalk.i64_in _ ⟨by omega,by omega⟩
 have hwg2 : IntKind.i64.wrap ((g : Int) + 2300) = (g : Int) + 2300:=IntWalk.i64_in _ ⟨by omega,by omega⟩
 have hp0 : Pres [f] [] W W.drew:=.of_below (Below.refl _ _).drew _ _
 have hzv:=U1 v hv
 unfold Eb at hcal
 go_enter TryQ.func332,Tryz.ntmps332
 go_wp2_with fail
 refine P6 (fun z n V=>n = 0 /\ W.heap.size <= z /\ V.heap[z]? = ob (wq v) 41 /\ ∃ sv',V.heap[f]? = ob (frC F sv') 225 /\ Stk V sv' (T ++ [0,c,0,a]) /\ Pres [f] [] W V) ?_
 apply Exists.intro
 apply And.intro
 ·skip
  refine rq (fun V=>True) trivial fun hH=>?_
  refine tx 0 5 (pq f 0) hH ?_
  refine tx 1 6 (pq f 0) hH ?_
  refine tx 2 7 (pq f 14) hH ?_
  refine tx 6 11 (pq f 0) hH ?_
  refine tx 7 12 (pq f 0) hH ?_
  refine tx 8 13 (pq f 14) hH ?_
  refine tx 11 16 (pq f 0) hH ?_
  refine tx 12 17 (pq f 0) hH ?_
  refine tx 13 18 (pq f 14) hH ?_
  have hf9 : W.drew.heap[f]? = ob (frC F sv) 225:=hf
  have hs9:=hs0
  have hp9:=hp0
  refine wpAnyH_ready (rs:=[3,15]) (by kernel_rfl) (by simp) ?_
  refine AllReadyH.cons rfl (fun K hK=>?_) (AllReadyH.cons rfl (fun K hK=>?_) AllReadyH.nil)
  ·skip
   go_simp
   refine (Cz (o:=14) (T:=T ++ [0,c,0,a,v,t]) (x:=g) hs9 hf9 rfl (by decide)).mono ?_
   rintro e W1 ⟨rfl,hf1,hs1,hp1⟩
   go_wp2_with fail
   refine hK.out _ _ trivial fun hH=>?_
   clear hK K
   rw [show T ++ [0,c,0,a,v,t] = T ++ [0,c,0,a,v] ++ [t] by simp] at hs1 hf1
   replace hp9:=hp9.trans hp1
   clear hf9 hs9
   have hf9:=hf1
   have hs9:=hs1
   clear hf1 hs1
   clear hp1
   refine td (i:=4) (d:=some 9) (v:=.int .u64 (lim g 0)) rfl rfl (fun V hW=>?_) hH ?_
   ·have hix:=Acn
    clear hW hH
    go_simp
   refine tx 5 10 (.int .i64 (g : Int)) hH ?_
   refine wpAnyH_ready (rs:=[9,15]) (by kernel_rfl) (by simp) ?_
   refine AllReadyH.cons rfl (fun K hK=>?_) (AllReadyH.cons rfl (fun K hK=>?_) AllReadyH.nil)
   ·skip
    go_simp
    refine (Cz (o:=14) (T:=T ++ [0,c,0,a,v]) (x:=t) hs9 hf9 rfl (by decide)).mono ?_
    rintro e W2 ⟨rfl,hf1,hs1,hp1⟩
    go_wp2_with fail
    refine hK.out _ _ trivial fun hH=>?_
    clear hK K
    rw [show T ++ [0,c,0,a,v] = T ++ [0,c,0,a] ++ [v] by simp] at hs1 hf1
    replace hp9:=hp9.trans hp1
    clear hf9 hs9
    have hf9:=hf1
    have hs9:=hs1
    clear hf1 hs1
    clear hp1
    refine wpAnyH_ready (rs:=[10,15]) (by kernel_rfl) (by simp) ?_
    refine AllReadyH.cons rfl (fun K hK=>?_) (AllReadyH.cons rfl (fun K hK=>?_) AllReadyH.nil)
    ·skip
     go_simp
     refine (Py t ht _).mono ?_
     rintro e W3 ⟨rfl,hb1⟩
     go_wp2_with fail
     refine hK.out _ _ trivial fun hH=>?_
     clear hK K
     replace hp9:=hp9.trans (.of_below hb1 _ _)
     replace hf9:=bk hb1 hf9
     replace hs9:=hs9.below hb1
     clear hb1
     refine wpAnyH_ready (rs:=[14,15]) (by kernel_rfl) (by simp) ?_
     refine AllReadyH.cons rfl (fun K hK=>?_) (AllReadyH.cons rfl (fun K hK=>?_) AllReadyH.nil)
     ·skip
      go_simp
      refine (Cz (o:=14) (T:=T ++ [0,c,0,a]) (x:=v) hs9 hf9 rfl (by decide)).mono ?_
      rintro e W4 ⟨rfl,hf1,hs1,hp1⟩
      go_wp2_with fail
      refine hK.out _ _ trivial fun hH=>?_
      clear hK K
      replace hp9:=hp9.trans hp1
      clear hf9 hs9
      have hf9:=hf1
      have hs9:=hs1
      clear hf1 hs1
      clear hp1
      refine r1 15 fun K hK=>?_
      go_simp
      have hz:=Al W4 (.cells wz 41)
      have hzW : W.heap.size <= W4.heap.size:=hp9.size
      refine hK.out _ (W4.alloc (.cells wz 41)) trivial fun hH=>?_
      clear hK K
      replace hf9:=Aw (p:=.cells wz 41) hf9
      replace hs9:=hs9.below (ba (o:=.cells wz 41))
      replace hp9:=hp9.trans (.of_below (ba (o:=.cells wz 41)) _ _)
      generalize W4.alloc (.cells wz 41) = WA at hz hf9 hs9 hp9 hH ⊢
      generalize W4.heap.size = zB at hz hzW ⊢
      refine tx 16 2 (.int .i64 (g : Int)) hH ?_
      refine tx 17 3 (.int .i64 (t : Int)) hH ?_
      have z0:=bq hz 0 rfl
      have y0:=Ai hz 0
      have z1:=bq hz 1 rfl
      have y1:=Ai hz 1
      have z2:=bq hz 2 rfl
      have y2:=Ai hz 2
      have z3:=bq hz 3 rfl
      have y3:=Ai hz 3
      refine r1 18 fun K hK=>?_
      go_simp
      refine hK.out _ _ trivial fun hH=>?_
      clear hK K
      refine dn ?_
      obtain ⟨n0,hn0⟩ : ∃ n0 : Nat,0 = n0:=⟨_,rfl⟩
      exact ⟨rfl,zB,n0,rfl,hn0.symm,(by omega),Cx _ _ _ _ hz,⟨sv.a,(T ++ [0,c,0,a]).length,sv.c⟩,Adx hf9 (by have:=Aa hf; omega),Agn hs9 (fun k hk=>by have:=Ed hs.own k ((Ew _ _ _ _ _).trans hk); omega),Agp hp9 hzW⟩
     ·skip
      go_simp
      have hz:=Al W3 (.cells wz 41)
      have hzW : W.heap.size <= W3.heap.size:=hp9.size
      refine hK.out _ (W3.alloc (.cells wz 41)) trivial fun hH=>?_
      clear hK K
      replace hf9:=Aw (p:=.cells wz 41) hf9
      replace hs9:=hs9.below (ba (o:=.cells wz 41))
      replace hp9:=hp9.trans (.of_below (ba (o:=.cells wz 41)) _ _)
      generalize W3.alloc (.cells wz 41) = WA at hz hf9 hs9 hp9 hH ⊢
      generalize W3.heap.size = zB at hz hzW ⊢
      refine r1 14 fun K hK=>?_
      go_simp
      refine (Cz (o:=14) (T:=T ++ [0,c,0,a]) (x:=v) hs9 hf9 rfl (by decide)).mono ?_
      rintro e W4 ⟨rfl,hf1,hs1,hp1⟩
      go_wp2_with fail
      refine hK.out _ _ trivial fun hH=>?_
      clear hK K
      replace hz:=hp1.obj hz (by show (41 : Nat) ∉ []; simp) (by have:=Aa hf; simp; omega)
      replace hp9:=hp9.trans hp1
      clear hf9 hs9
      have hf9:=hf1
      have hs9:=hs1
      clear hf1 hs1
      clear hp1
      refine tx 16 2 (.int .i64 (g : Int)) hH ?_
      refine tx 17 3 (.int .i64 (t : Int)) hH ?_
      have z0:=bq hz 0 rfl
      have y0:=Ai hz 0
      have z1:=bq hz 1 rfl
      have y1:=Ai hz 1
      have z2:=bq hz 2 rfl
      have y2:=Ai hz 2
      have z3:=bq hz 3 rfl
      have y3:=Ai hz 3
      refine r1 18 fun K hK=>?_
      go_simp
      refine hK.out _ _ trivial fun hH=>?_
      clear hK K
      refine dn ?_
      obtain ⟨n0,hn0⟩ : ∃ n0 : Nat,0 = n0:=⟨_,rfl⟩
      exact ⟨rfl,zB,n0,rfl,hn0.symm,(by omega),Cx _ _ _ _ hz,⟨sv.a,(T ++ [0,c,0,a]).length,sv.c⟩,Adx hf9 (by have:=Aa hf; omega),Agn hs9 (fun k hk=>by have:=Ed hs.own k ((Ew _ _ _ _ _).trans hk); omega),Agp hp9 hzW⟩
    ·skip
     go_simp
     have hz:=Al W2 (.cells wz 41)
     have hzW : W.heap.size <= W2.heap.size:=hp9.size
     refine hK.out _ (W2.alloc (.cells wz 41)) trivial fun hH=>?_
     clear hK K
     replace hf9:=Aw (p:=.cells wz 41) hf9
     replace hs9:=hs9.below (ba (o:=.cells wz 41))
     replace hp9:=hp9.trans (.of_below (ba (o:=.cells wz 41)) _ _)
     generalize W2.alloc (.cells wz 41) = WA at hz hf9 hs9 hp9 hH ⊢
     generalize W2.heap.size = zB at hz hzW ⊢
     refine r1 10 fun K hK=>?_
     go_simp
     refine (Py t ht _).mono ?_
     rintro e W3 ⟨rfl,hb1⟩
     go_wp2_with fail
     refine hK.out _ _ trivial fun hH=>?_
     clear hK K
     replace hz:=bk hb1 hz
     replace hp9:=hp9.trans (.of_below hb1 _ _)
     replace hf9:=bk hb1 hf9
     replace hs9:=hs9.below hb1
     clear hb1
     refine r1 14 fun K hK=>?_
     go_simp
     refine (Cz (o:=14) (T:=T ++ [0,c,0,a]) (x:=v) hs9 hf9 rfl (by decide)).mono ?_
     rintro e W4 ⟨rfl,hf1,hs1,hp1⟩
     go_wp2_with fail
     refine hK.out _ _ trivial fun hH=>?_
     clear hK K
     replace hz:=hp1.obj hz (by show (41 : Nat) ∉ []; simp) (by have:=Aa hf; simp; omega)
     replace hp9:=hp9.trans hp1
     clear hf9 hs9
     have hf9:=hf1
     have hs9:=hs1
     clear hf1 hs1
     clear hp1
     refine tx 16 2 (.int .i64 (g : Int)) hH ?_
     refine tx 17 3 (.int .i64 (t : Int)) hH ?_
     have z0:=bq hz 0 rfl
     have y0:=Ai hz 0
     have z1:=bq hz 1 rfl
     have y1:=Ai hz 1
     have z2:=bq hz 2 rfl
     have y2:=Ai hz 2
     have z3:=bq hz 3 rfl
     have y3:=Ai hz 3
     refine r1 18 fun K hK=>?_
     go_simp
     refine hK.out _ _ trivial fun hH=>?_
     clear hK K
     refine dn ?_
     obtain ⟨n0,hn0⟩ : ∃ n0 : Nat,0 = n0:=⟨_,rfl⟩
     exact ⟨rfl,zB,n0,rfl,hn0.symm,(by omega),Cx _ _ _ _ hz,⟨sv.a,(T ++ [0,c,0,a]).length,sv.c⟩,Adx hf9 (by have:=Aa hf; omega),Agn hs9 (fun k hk=>by have:=Ed hs.own k ((Ew _ _ _ _ _).trans hk); omega),Agp hp9 hzW⟩
   ·skip
    go_simp
    have hz:=Al W1 (.cells wz 41)
    have hzW : W.heap.size <= W1.heap.size:=hp9.size
    refine hK.out _ (W1.alloc (.cells wz 41)) trivial fun hH=>?_
    clear hK K
    replace hf9:=Aw (p:=.cells wz 41) hf9
    replace hs9:=hs9.below (ba (o:=.cells wz 41))
    replace hp9:=hp9.trans (.of_below (ba (o:=.cells wz 41)) _ _)
    generalize W1.alloc (.cells wz 41) = WA at hz hf9 hs9 hp9 hH ⊢
    generalize W1.heap.size = zB at hz hzW ⊢
    refine r1 9 fun K hK=>?_
    go_simp
    refine (Cz (o:=14) (T:=T ++ [0,c,0,a,v]) (x:=t) hs9 hf9 rfl (by decide)).mono ?_
    rintro e W2 ⟨rfl,hf1,hs1,hp1⟩
    go_wp2_with fail
    refine hK.out _ _ trivial fun hH=>?_
    clear hK K
    rw [show T ++ [0,c,0,a,v] = T ++ [0,c,0,a] ++ [v] by simp] at hs1 hf1
    replace hz:=hp1.obj hz (by show (41 : Nat) ∉ []; simp) (by have:=Aa hf; simp; omega)
    replace hp9:=hp9.trans hp1
    clear hf9 hs9
    have hf9:=hf1
    have hs9:=hs1
    clear hf1 hs1
    clear hp1
    refine r1 10 fun K hK=>?_
    go_simp
    refine (Py t ht _).mono ?_
    rintro e W3 ⟨rfl,hb1⟩
    go_wp2_with fail
    refine hK.out _ _ trivial fun hH=>?_
    clear hK K
    replace hz:=bk hb1 hz
    replace hp9:=hp9.trans (.of_below hb1 _ _)
    replace hf9:=bk hb1 hf9
    replace hs9:=hs9.below hb1
    clear hb1
    refine r1 14 fun K hK=>?_
    go_simp
    refine (Cz (o:=14) (T:=T ++ [0,c,0,a]) (x:=v) hs9 hf9 rfl (by decide)).mono ?_
    rintro e W4 ⟨rfl,hf1,hs1,hp1⟩
    go_wp2_with fail
    refine hK.out _ _ trivial fun hH=>?_
    clear hK K
    replace hz:=hp1.obj hz (by show (41 : Nat) ∉ []; simp) (by have:=Aa hf; simp; omega)
    replace hp9:=hp9.trans hp1
    clear hf9 hs9
    have hf9:=hf1
    have hs9:=hs1
    clear hf1 hs1
    clear hp1
    refine tx 16 2 (.int .i64 (g : Int)) hH ?_
    refine tx 17 3 (.int .i64 (t : Int)) hH ?_
    have z0:=bq hz 0 rfl
    have y0:=Ai hz 0
    have z1:=bq hz 1 rfl
    have y1:=Ai hz 1
    have z2:=bq hz 2 rfl
    have y2:=Ai hz 2
    have z3:=bq hz 3 rfl
    have y3:=Ai hz 3
    refine r1 18 fun K hK=>?_
    go_simp
    refine hK.out _ _ trivial fun hH=>?_
    clear hK K
    refine dn ?_
    obtain ⟨n0,hn0⟩ : ∃ n0 : Nat,0 = n0:=⟨_,rfl⟩
    exact ⟨rfl,zB,n0,rfl,hn0.symm,(by omega),Cx _ _ _ _ hz,⟨sv.a,(T ++ [0,c,0,a]).length,sv.c⟩,Adx hf9 (by have:=Aa hf; omega),Agn hs9 (fun k hk=>by have:=Ed hs.own k ((Ew _ _ _ _ _).trans hk); omega),Agp hp9 hzW⟩
  ·skip
   go_simp
   have hz:=Al W.drew (.cells wz 41)
   have hzW : W.heap.size <= W.drew.heap.size:=hp9.size
   refine hK.out _ (W.drew.alloc (.cells wz 41)) trivial fun hH=>?_
   clear hK K
   replace hf9:=Aw (p:=.cells wz 41) hf9
   replace hs9:=hs9.below (ba (o:=.cells wz 41))
   replace hp9:=hp9.trans (.of_below (ba (o:=.cells wz 41)) _ _)
   generalize W.drew.alloc (.cells wz 41) = WA at hz hf9 hs9 hp9 hH ⊢
   obtain ⟨zB,hzB⟩ : ∃ z,W.heap.size = z:=⟨_,rfl⟩
   replace hz : WA.heap[zB]? = ob wz 41:=by rw [<- hzB]; exact hz
   replace hzW : W.heap.size <= zB:=Nat.le_of_eq hzB
   rw [hzB]
   refine r1 3 fun K hK=>?_
   go_simp
   refine (Cz (o:=14) (T:=T ++ [0,c,0,a,v,t]) (x:=g) hs9 hf9 rfl (by decide)).mono ?_
   rintro e W1 ⟨rfl,hf1,hs1,hp1⟩
   go_wp2_with fail
   refine hK.out _ _ trivial fun hH=>?_
   clear hK K
   rw [show T ++ [0,c,0,a,v,t] = T ++ [0,c,0,a,v] ++ [t] by simp] at hs1 hf1
   replace hz:=hp1.obj hz (by show (41 : Nat) ∉ []; simp) (by have:=Aa hf; simp; omega)
   replace hp9:=hp9.trans hp1
   clear hf9 hs9
   have hf9:=hf1
   have hs9:=hs1
   clear hf1 hs1
   clear hp1
   refine td (i:=4) (d:=some 9) (v:=.int .u64 (lim g 0)) rfl rfl (fun V hW=>?_) hH ?_
   ·have hix:=Acn
    clear hW hH
    go_simp
   refine tx 5 10 (.int .i64 (g : Int)) hH ?_
   refine r1 9 fun K hK=>?_
   go_simp
   refine (Cz (o:=14) (T:=T ++ [0,c,0,a,v]) (x:=t) hs9 hf9 rfl (by decide)).mono ?_
   rintro e W2 ⟨rfl,hf1,hs1,hp1⟩
   go_wp2_with fail
   refine hK.out _ _ trivial fun hH=>?_
   clear hK K
   rw [show T ++ [0,c,0,a,v] = T ++ [0,c,0,a] ++ [v] by simp] at hs1 hf1
   replace hz:=hp1.obj hz (by show (41 : Nat) ∉ []; simp) (by have:=Aa hf; simp; omega)
   replace hp9:=hp9.trans hp1
   clear hf9 hs9
   have hf9:=hf1
   have hs9:=hs1
   clear hf1 hs1
   clear hp1
   refine r1 10 fun K hK=>?_
   go_simp
   refine (Py t ht _).mono ?_
   rintro e W3 ⟨rfl,hb1⟩
   go_wp2_with fail
   refine hK.out _ _ trivial fun hH=>?_
   clear hK K
   replace hz:=bk hb1 hz
   replace hp9:=hp9.trans (.of_below hb1 _ _)
   replace hf9:=bk hb1 hf9
   replace hs9:=hs9.below hb1
   clear hb1
   refine r1 14 fun K hK=>?_
   go_simp
   refine (Cz (o:=14) (T:=T ++ [0,c,0,a]) (x:=v) hs9 hf9 rfl (by decide)).mono ?_
   rintro e W4 ⟨rfl,hf1,hs1,hp1⟩
   go_wp2_with fail
   refine hK.out _ _ trivial fun hH=>?_
   clear hK K
   replace hz:=hp1.obj hz (by show (41 : Nat) ∉ []; simp) (by have:=Aa hf; simp; omega)
   replace hp9:=hp9.trans hp1
   clear hf9 hs9
   have hf9:=hf1
   have hs9:=hs1
   clear hf1 hs1
   clear hp1
   refine tx 16 2 (.int .i64 (g : Int)) hH ?_
   refine tx 17 3 (.int .i64 (t : Int)) hH ?_
   have z0:=bq hz 0 rfl
   have y0:=Ai hz 0
   have z1:=bq hz 1 rfl
   have y1:=Ai hz 1
   have z2:=bq hz 2 rfl
   have y2:=Ai hz 2
   have z3:=bq hz 3 rfl
   have y3:=Ai hz 3
   refine r1 18 fun K hK=>?_
   go_simp
   refine hK.out _ _ trivial fun hH=>?_
   clear hK K
   refine dn ?_
   obtain ⟨n0,hn0⟩ : ∃ n0 : Nat,0 = n0:=⟨_,rfl⟩
   exact ⟨rfl,zB,n0,rfl,hn0.symm,(by omega),Cx _ _ _ _ hz,⟨sv.a,(T ++ [0,c,0,a]).length,sv.c⟩,Adx hf9 (by have:=Aa hf; omega),Agn hs9 (fun k hk=>by have:=Ed hs.own k ((Ew _ _ _ _ _).trans hk); omega),Agp hp9 hzW⟩
 intro zB n0 W3 hR
 obtain ⟨rfl,hzW,hz3,sv3,hf3,hs3,hp3⟩:=hR
 replace hs3 : Stk W3 sv3 (T ++ [0,c] ++ [0,a]):=by rw [List.append_assoc]; exact hs3
 have e0:=bq hz3 0 rfl
 have e1:=bq hz3 1 rfl
 have e2:=bq hz3 2 rfl
 have e3:=bq hz3 3 rfl
 rcases hgas with ⟨hv0,rfl⟩ | ⟨hv0,rfl⟩
 ·rw [decide_eq_true hv0] at hzv
  clear hv0
  go_wp2_with fail
  refine rq (fun V=>V.cell? ⟨f,0,none⟩ = some (pq F.m 0) /\ V.cell? ⟨f,6,none⟩ = some (.int .i64 F.self)) ⟨(Ad hf3 0).trans rfl,(Ad hf3 6).trans rfl⟩ fun hH=>?_
  refine tx 0 25 (pq f 0) hH ?_
  refine tx 1 26 (pq f 0) hH ?_
  refine tx 2 27 (pq f 0) hH ?_
  refine tx 3 28 (pq f 0) hH ?_
  refine td (i:=4) (d:=some 29) (v:=pq F.m 0) rfl rfl (fun V hW=>?_) hH ?_
  ·have k0:=hW.1
   clear hW hH
   go_simp
  refine tx 5 30 (pq f 0) hH ?_
  refine tx 6 31 (pq f 0) hH ?_
  refine tx 7 32 (pq f 6) hH ?_
  refine td (i:=8) (d:=some 33) (v:=.int .i64 F.self) rfl rfl (fun V hW=>?_) hH ?_
  ·have k0:=hW.2
   clear hW hH
   go_simp
  refine tx 9 34 (.int .i64 (t : Int)) hH ?_
  refine tx 11 36 (.int .i64 ((g : Int))) hH ?_
  refine tx 12 37 (pq f 0) hH ?_
  refine wpAnyH_ready (rs:=[10,13]) (by kernel_rfl) (by simp) ?_
  refine AllReadyH.cons rfl (fun K hK=>?_) (AllReadyH.cons rfl (fun K hK=>?_) AllReadyH.nil)
  ·skip
   go_simp
   refine hK.out _ _ hH fun hH=>?_
   clear hK K e0 e1 e2 e3
   refine r1 13 fun K hK=>?_
   go_simp
   refine (Ef (W:=W3.drew) (T:=T ++ [0,c]) (a:=a) hf3 (hs3.below (Below.refl _ _).drew)).mono ?_
   rintro e W4 ⟨sv4,rfl,hf4,hs4,hp4⟩
   go_wp2_with fail
   refine hK.out _ _ ⟨(Ad hf4 0).trans rfl,(Ad hf4 6).trans rfl⟩ fun hH=>?_
   clear hK K
   have hpA : Pres [f] [] W W4:=hp3.dr.trans hp4
   refine tx 14 39 (.agg #[.int .i64 F.self,.int .i64 (t : Int),.int .u64 (lim v 0),.int .u64 (lim v 1),.int .u64 (lim v 2),.int .u64 (lim v 3),.int .i64 ((g : Int)),.slice none 0 0]) hH ?_
   refine r1 15 fun K hK=>?_
   go_simp
   refine (hcal W4 sv4 hf4 hs4 hpA).mono ?_
   rintro e W5 ⟨tt,vv,rfl,hΨ⟩
   go_wp2_with fail
   refine hK.out _ _ (hΨ0 _ _ _ _ hΨ) fun hH=>?_
   clear hK K
   refine r1 16 fun K hK=>?_
   go_simp
   refine (hcb _ _ _ _ hΨ).mono ?_
   rintro e W6 ⟨rfl,hΩ⟩
   go_wp2_with fail
   refine hK.out _ _ (hΩ0 _ hΩ) fun hH=>?_
   clear hK K
   refine dn ?_
   go_wp2
   simp [bodyPost,results,Tryz.results332,go_sem]
   exact hΩ
  ·skip
   go_simp
   refine (Ef (W:=W3.drew) (T:=T ++ [0,c]) (a:=a) hf3 (hs3.below (Below.refl _ _).drew)).mono ?_
   rintro e W4 ⟨sv4,rfl,hf4,hs4,hp4⟩
   go_wp2_with fail
   refine hK.out _ _ ⟨(Ad hf4 0).trans rfl,(Ad hf4 6).trans rfl⟩ fun hH=>?_
   clear hK K e0 e1 e2 e3
   have hpA : Pres [f] [] W W4:=hp3.dr.trans hp4
   have hz4 : W4.heap[zB]? = _:=hp4.obj (w:=W3.drew) hz3 (by show (41 : Nat) ∉ []; simp) (by have:=Aa hf; simp; omega)
   have e0:=bq hz4 0 rfl
   have e1:=bq hz4 1 rfl
   have e2:=bq hz4 2 rfl
   have e3:=bq hz4 3 rfl
   refine r1 10 fun K hK=>?_
   go_simp
   refine hK.out _ _ hH fun hH=>?_
   clear hK K
   clear e0 e1 e2 e3
   refine tx 14 39 (.agg #[.int .i64 F.self,.int .i64 (t : Int),.int .u64 (lim v 0),.int .u64 (lim v 1),.int .u64 (lim v 2),.int .u64 (lim v 3),.int .i64 ((g : Int)),.slice none 0 0]) hH ?_
   refine r1 15 fun K hK=>?_
   go_simp
   refine (hcal W4 sv4 hf4 hs4 hpA).mono ?_
   rintro e W5 ⟨tt,vv,rfl,hΨ⟩
   go_wp2_with fail
   refine hK.out _ _ (hΨ0 _ _ _ _ hΨ) fun hH=>?_
   clear hK K
   refine r1 16 fun K hK=>?_
   go_simp
   refine (hcb _ _ _ _ hΨ).mono ?_
   rintro e W6 ⟨rfl,hΩ⟩
   go_wp2_with fail
   refine hK.out _ _ (hΩ0 _ hΩ) fun hH=>?_
   clear hK K
   refine dn ?_
   go_wp2
   simp [bodyPost,results,Tryz.results332,go_sem]
   exact hΩ
 ·rw [decide_eq_false hv0] at hzv
  clear hv0
  go_wp2_with fail
  refine rq (fun V=>V.cell? ⟨f,0,none⟩ = some (pq F.m 0) /\ V.cell? ⟨f,6,none⟩ = some (.int .i64 F.self)) ⟨(Ad hf3 0).trans rfl,(Ad hf3 6).trans rfl⟩ fun hH=>?_
  refine tx 0 25 (pq f 0) hH ?_
  refine tx 1 26 (pq f 0) hH ?_
  refine tx 2 27 (pq f 0) hH ?_
  refine tx 3 28 (pq f 0) hH ?_
  refine td (i:=4) (d:=some 29) (v:=pq F.m 0) rfl rfl (fun V hW=>?_) hH ?_
  ·have k0:=hW.1
   clear hW hH
   go_simp
  refine tx 5 30 (pq f 0) hH ?_
  refine tx 6 31 (pq f 0) hH ?_
  refine tx 7 32 (pq f 6) hH ?_
  refine td (i:=8) (d:=some 33) (v:=.int .i64 F.self) rfl rfl (fun V hW=>?_) hH ?_
  ·have k0:=hW.2
   clear hW hH
   go_simp
  refine tx 9 34 (.int .i64 (t : Int)) hH ?_
  refine tx 11 36 (.int .i64 ((g : Int) + 2300)) hH ?_
  refine tx 12 37 (pq f 0) hH ?_
  refine wpAnyH_ready (rs:=[10,13]) (by kernel_rfl) (by simp) ?_
  refine AllReadyH.cons rfl (fun K hK=>?_) (AllReadyH.cons rfl (fun K hK=>?_) AllReadyH.nil)
  ·skip
   go_simp
   refine hK.out _ _ hH fun hH=>?_
   clear hK K e0 e1 e2 e3
   refine r1 13 fun K hK=>?_
   go_simp
   refine (Ef (W:=W3.drew) (T:=T ++ [0,c]) (a:=a) hf3 (hs3.below (Below.refl _ _).drew)).mono ?_
   rintro e W4 ⟨sv4,rfl,hf4,hs4,hp4⟩
   go_wp2_with fail
   refine hK.out _ _ ⟨(Ad hf4 0).trans rfl,(Ad hf4 6).trans rfl⟩ fun hH=>?_
   clear hK K
   have hpA : Pres [f] [] W W4:=hp3.dr.trans hp4
   refine tx 14 39 (.agg #[.int .i64 F.self,.int .i64 (t : Int),.int .u64 (lim v 0),.int .u64 (lim v 1),.int .u64 (lim v 2),.int .u64 (lim v 3),.int .i64 ((g : Int) + 2300),.slice none 0 0]) hH ?_
   refine r1 15 fun K hK=>?_
   go_simp
   refine (hcal W4 sv4 hf4 hs4 hpA).mono ?_
   rintro e W5 ⟨tt,vv,rfl,hΨ⟩
   go_wp2_with fail
   refine hK.out _ _ (hΨ0 _ _ _ _ hΨ) fun hH=>?_
   clear hK K
   refine r1 16 fun K hK=>?_
   go_simp
   refine (hcb _ _ _ _ hΨ).mono ?_
   rintro e W6 ⟨rfl,hΩ⟩
   go_wp2_with fail
   refine hK.out _ _ (hΩ0 _ hΩ) fun hH=>?_
   clear hK K
   refine dn ?_
   go_wp2
   simp [bodyPost,results,Tryz.results332,go_sem]
   exact hΩ
  ·skip
   go_simp
   refine (Ef (W:=W3.drew) (T:=T ++ [0,c]) (a:=a) hf3 (hs3.below (Below.refl _ _).drew)).mono ?_
   rintro e W4 ⟨sv4,rfl,hf4,hs4,hp4⟩
   go_wp2_with fail
   refine hK.out _ _ ⟨(Ad hf4 0).trans rfl,(Ad hf4 6).trans rfl⟩ fun hH=>?_
   clear hK K e0 e1 e2 e3
   have hpA : Pres [f] [] W W4:=hp3.dr.trans hp4
   have hz4 : W4.heap[zB]? = _:=hp4.obj (w:=W3.drew) hz3 (by show (41 : Nat) ∉ []; simp) (by have:=Aa hf; simp; omega)
   have e0:=bq hz4 0 rfl
   have e1:=bq hz4 1 rfl
   have e2:=bq hz4 2 rfl
   have e3:=bq hz4 3 rfl
   refine r1 10 fun K hK=>?_
   go_simp
   refine hK.out _ _ hH fun hH=>?_
   clear hK K
   clear e0 e1 e2 e3
   refine tx 14 39 (.agg #[.int .i64 F.self,.int .i64 (t : Int),.int .u64 (lim v 0),.int .u64 (lim v 1),.int .u64 (lim v 2),.int .u64 (lim v 3),.int .i64 ((g : Int) + 2300),.slice none 0 0]) hH ?_
   refine r1 15 fun K hK=>?_
   go_simp
   refine (hcal W4 sv4 hf4 hs4 hpA).mono ?_
   rintro e W5 ⟨tt,vv,rfl,hΨ⟩
   go_wp2_with fail
   refine hK.out _ _ (hΨ0 _ _ _ _ hΨ) fun hH=>?_
   clear hK K
   refine r1 16 fun K hK=>?_
   go_simp
   refine (hcb _ _ _ _ hΨ).mono ?_
   rintro e W6 ⟨rfl,hΩ⟩
   go_wp2_with fail
   refine hK.out _ _ (hΩ0 _ hΩ) fun hH=>?_
   clear hK K
   refine dn ?_
   go_wp2
   simp [bodyPost,results,Tryz.results332,go_sem]
   exact hΩ
end
end Go.Mark
namespace Go.Mark
open Go.RowKit Go.Proofs
theorem mUB (v : Value) (w : World) : (Go.method 543 212 v "purser/ledger.undo").run TryQ.prog w = .ok (369,v) w:=by kernel_rfl
theorem mUS (v : Value) (w : World) : (Go.method 543 399 v "purser/ledger.undo").run TryQ.prog w = .ok (391,v) w:=by kernel_rfl
section
variable [BaseB] {l m : Nat} {dm : Dm} {cr : Int} {L : AL} {B : List Nat}
theorem Vd {q : Int × Nat × Ac} (hq : q ∈ L) (hnd : (L.map (·.2.1)).Nodup) (hb : q.2.2.bal < M) (hB : q.2.1 ∈ B) (y : Nat) : JU l m dm cr B (Hg q.2.1 q.2.2.bal) (Ce L q.2.1 { q.2.2 with bal:=y }) L:=by
 refine ⟨212,_,369,rfl,mUB _,TryQ.call369,fun w J h=>?_⟩
 refine (Aao h (Fx hq { q.2.2 with bal:=y }) q.2.2.bal hb).mono ?_
 rintro e w' ⟨rfl,h1,h2⟩
 rw [Xt] at h1
 have e0 : Ce L q.2.1 q.2.2 = L:=Jq hnd hq
 refine ⟨rfl,?_,h2.mono (fun k _ hk=>by simp at hk; rw [hk]; exact hB) (fun t ht=>ht)⟩
 have e1 : Ce L q.2.1 { q.2.2 with bal:=q.2.2.bal } = L:=e0
 rw [<- e1]
 exact h1
theorem Adb {q : Int × Nat × Ac} (hq : q ∈ L) (hnd : (L.map (·.2.1)).Nodup) (hs : Pw 1 (D9 1 9 q.2.2.sl) = q.2.2.sl) (hB : q.2.2.ms ∈ B) : JU l m dm cr B (D7 q.2.1 1 0) (L1 L q) L:=by
 refine ⟨399,_,391,rfl,mUS _,TryQ.call391,fun w J h=>?_⟩
 refine (Yy h (Fx hq { q.2.2 with sl:=D9 1 9 q.2.2.sl }) 1 0 (by decide) rfl).mono ?_
 rintro e w' ⟨rfl,h1,h2⟩
 unfold L1 at h1
 rw [Xt] at h1
 have e0 : Ce L q.2.1 q.2.2 = L:=Jq hnd hq
 refine ⟨rfl,?_,h2.mono (fun k _ hk=>by simp at hk; rw [hk]; exact hB) (fun t ht=>ht)⟩
 have e1 : Ce L q.2.1 { q.2.2 with sl:=Pw 1 (D9 1 9 q.2.2.sl) } = L:=by rw [hs]; exact e0
 rw [<- e1]
 exact h1
end
theorem LG.base {b0 b1 b2 : Nat} {h1 : b0 <= b1} {h2 : b0 <= b2} {W : World} {l m : Nat} {dm : Dm} {cr : Int} {L : AL} {J : List Value} (h : @LG ⟨b0,b1,h1⟩ W l m dm cr L J) : @LG ⟨b0,b2,h2⟩ W l m dm cr L J:=by
 obtain ⟨⟨x1,x2⟩,x3,x4,x5,x6,x7,x8,x9,x10,x11,x12,x13,x14,x15,x16,x17⟩:=h
 letI : BaseB:=⟨b0,b2,h2⟩
 exact ⟨⟨x1,x2⟩,x3,x4,x5,x6,x7,x8,x9,x10,x11,x12,x13,x14,x15,x16,x17⟩
theorem Gb.base {b0 b1 b2 : Nat} {h1 : b0 <= b1} {h2 : b0 <= b2} {W : World} {a d li ni : Addr} (h : @Gb ⟨b0,b1,h1⟩ W a d li ni) : @Gb ⟨b0,b2,h2⟩ W a d li ni:=by
 obtain ⟨x1,x2,x3,x4,x5,x6,x7,x8,x9,x10,x11,x12⟩:=h
 letI : BaseB:=⟨b0,b2,h2⟩
 exact ⟨x1,x2,x3,x4,x5,x6,x7,x8,x9,x10,x11,x12⟩
theorem Pres.base {b0 b1 b2 : Nat} {h1 : b0 <= b1} {h2 : b0 <= b2} {B : List Nat} {T : List TypeId} {W w : World} (hb : b1 = W.heap.size) (h : @Pres ⟨b0,b1,h1⟩ B T W w) : @Pres ⟨b0,b2,h2⟩ B (T.filter (· ≠ 41)) W w:=by
 obtain ⟨x1,x2,x3,x4,x5⟩:=h
 letI : BaseB:=⟨b0,b2,h2⟩
 refine ⟨x1,x2,x3,x4,fun k hk hn=>(x5 k hk hn).imp id ?_⟩
 rintro ⟨t,c,c',ht,hlo,h2,h3⟩
 by_cases h41 : t = 41
 ·subst h41
  simp only [BaseB.lo,if_true] at hlo
  omega
 ·refine ⟨t,c,c',List.mem_filter.2 ⟨ht,by simp [h41]⟩,?_,h2,h3⟩
  simp only [BaseB.lo,if_neg h41] at hlo ⊢
  exact hlo
end Go.Mark
