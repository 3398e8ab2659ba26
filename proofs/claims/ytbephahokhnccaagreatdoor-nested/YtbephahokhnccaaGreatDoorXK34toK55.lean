import Derived.Test.YtbephahokhnccaaGreatDoorXK40toK32
set_option linter.unusedSectionVars false
set_option maxRecDepth 100000
set_option maxHeartbeats 4000000
namespace Go.Mark
open Go.RowKit Go.Proofs
variable [BaseB]
section
attribute [local go_sem] wd
theorem Aeq (src dst nonce : Int) (val : Nat) (g p : Nat) (miner : Int) (bal : Nat) (hg : g < 100000000) (hp : p < 100000000) (hv : val < M) (hb : bal < M) (hle : g * p + val <= bal) (W : World) :
  Calls TryQ.prog 85 #[.agg (Bl src dst nonce val g p miner),wd bal] W fun e w'=>e = .returned (.bool true) /\ Below W.heap.size W w':=by
 have hgM : g * p < M:=by omega
 have hb1 : Below W.heap.size W ((W.alloc (.cells (Bl src dst nonce val g p miner) 43)).alloc (.cells (wq (bal)) 41)):=ba.alloc (by simp) _
 have ho:=Aw (p:=.cells (wq (bal)) 41) (Al W (.cells (Bl src dst nonce val g p miner) 43))
 have hn:=Al (W.alloc (.cells (Bl src dst nonce val g p miner) 43)) (.cells (wq (bal)) 41)
 rw [show (W.alloc (.cells (Bl src dst nonce val g p miner) 43)).heap.size = W.heap.size + 1 by simp] at hn
 go_enter TryQ.func85,Tryz.ntmps85
 unfold Bl
 go_wp2_with fail
 change Code.wp _ _ _ _ ((W.alloc (.cells (Bl src dst nonce val g p miner) 43)).alloc (.cells (wq (bal)) 41))
 generalize hw1 : (W.alloc (.cells (Bl src dst nonce val g p miner) 43)).alloc (.cells (wq (bal)) 41) = w1 at hb1 ho hn ⊢
 refine P6 (fun zb _ V=>∃ v,V.heap[zb]? = ob (wq ((g * p + val) % M)) 41 /\ Pres [zb] [] v V /\ Below w1.heap.size w1 v /\ w1.heap.size <= zb) ?_
 apply Exists.intro
 apply And.intro
 ·skip
  refine rq (fun V=>V.heap[W.heap.size]? = ob (Bl src dst nonce val g p miner) 43) ho fun hH=>?_
  refine tx 0 8 (pq W.heap.size 7) hH ?_
  refine tv 1 9 (.int .i64 (g : Int)) (fun _ hW=>bq hW 7 rfl) hH ?_
  refine tx 2 10 (pq W.heap.size 8) hH ?_
  refine tv 3 11 (.int .i64 (p : Int)) (fun _ hW=>bq hW 8 rfl) hH ?_
  refine tx 5 13 (pq W.heap.size 3) hH ?_
  refine tv 6 14 (wd val) (fun _ hW=>aq (bq hW 3 rfl) (aq (bq hW 4 rfl) (aq (bq hW 5 rfl) (bq hW 6 rfl)))) hH ?_
  have hbwv0 : Below w1.heap.size w1 w1.drew:=(Below.refl _ _).drew
  generalize w1.drew = v0 at hbwv0 hH ⊢
  refine wpAnyH_ready (rs:=[4,11]) (by kernel_rfl) (by simp) ?_
  refine AllReadyH.cons rfl (fun K hK=>?_) (AllReadyH.cons rfl (fun K hK=>?_) (AllReadyH.nil))
  ·skip
   go_simp
   refine (Ik g p hg hp _).mono ?_
   rintro e v1 ⟨rfl,hbn⟩
   go_wp2_with fail
   refine hK.out _ _ ((hbn.block _ (Aa hH)).trans hH) fun hH=>?_
   clear hK K
   have hbwv1:=hbwv0.trans (hbn.mono hbwv0.size)
   clear hbn
   refine wpAnyH_ready (rs:=[7,11]) (by kernel_rfl) (by simp) ?_
   refine AllReadyH.cons rfl (fun K hK=>?_) (AllReadyH.cons rfl (fun K hK=>?_) (AllReadyH.nil))
   ·skip
    go_simp
    refine (sum (g * p) val hgM hv _).mono ?_
    rintro e v2 ⟨rfl,hbn⟩
    go_wp2_with fail
    refine hK.out _ _ ((hbn.block _ (Aa hH)).trans hH) fun hH=>?_
    clear hK K
    have hbwv2:=hbwv1.trans (hbn.mono hbwv1.size)
    clear hbn
    refine tx 8 7 (.tuple #[wd ((g * p + val) % M),.int .u64 (((g * p + val) / M : Nat) : Int)]) hH ?_
    refine tx 9 16 (wd ((g * p + val) % M)) hH ?_
    refine tx 10 17 (.int .u64 (((g * p + val) / M : Nat) : Int)) hH ?_
    refine r1 11 fun K hK=>?_
    ·skip
     go_simp
     obtain ⟨zb,hzb0⟩ : ∃ zb,v2.heap.size = zb:=⟨_,rfl⟩
     have hzv3:=Al v2 (.cells wz 41)
     have hbn : Below v2.heap.size v2 (v2.alloc (.cells wz 41)):=ba
     have hzb : w1.heap.size <= zb:=by have:=hbwv2.size; omega
     rw [hzb0] at hzv3 ⊢
     have hbwv3:=hbwv2.trans (hbn.mono hbwv2.size)
     have hol : W.heap.size < w1.heap.size:=Aa ho
     refine hK.out _ (v2.alloc (.cells wz 41)) ((hbn.block _ (Aa hH)).trans hH) fun hH=>?_
     clear hK K hbn
     generalize v2.alloc (.cells wz 41) = v3 at hzv3 hbwv3 hH ⊢
     have c0:=bq hzv3 0 rfl
     have c1:=bq hzv3 1 rfl
     have c2:=bq hzv3 2 rfl
     have c3:=bq hzv3 3 rfl
     have d0:=Ai hzv3 0
     have d1:=Ai hzv3 1
     have d2:=Ai hzv3 2
     have d3:=Ai hzv3 3
     refine r1 12 fun K hK=>?_
     go_simp
     refine hK.out _ _ (Ae (Ae (Ae (Ae hH (by omega)) (by omega)) (by omega)) (by omega)) fun hH=>?_
     clear hK K
     refine tx 13 6 (.int .u64 (((g * p + val) / M : Nat) : Int)) hH ?_
     refine dn ?_
     obtain ⟨zz,hzz⟩ : ∃ zz : Nat,zz = zz:=⟨0,rfl⟩
     exact ⟨rfl,zb,zz,rfl,_,Cx _ _ _ _ hzv3,(Ei v3 zb _ _ _ _),hbwv3,hzb⟩
   ·skip
    go_simp
    obtain ⟨zb,hzb0⟩ : ∃ zb,v1.heap.size = zb:=⟨_,rfl⟩
    have hzv4:=Al v1 (.cells wz 41)
    have hbn : Below v1.heap.size v1 (v1.alloc (.cells wz 41)):=ba
    have hzb : w1.heap.size <= zb:=by have:=hbwv1.size; omega
    rw [hzb0] at hzv4 ⊢
    have hbwv4:=hbwv1.trans (hbn.mono hbwv1.size)
    have hol : W.heap.size < w1.heap.size:=Aa ho
    refine hK.out _ (v1.alloc (.cells wz 41)) ((hbn.block _ (Aa hH)).trans hH) fun hH=>?_
    clear hK K hbn
    generalize v1.alloc (.cells wz 41) = v4 at hzv4 hbwv4 hH ⊢
    refine r1 7 fun K hK=>?_
    ·skip
     go_simp
     refine (sum (g * p) val hgM hv _).mono ?_
     rintro e v5 ⟨rfl,hbn⟩
     go_wp2_with fail
     refine hK.out _ _ ((hbn.block _ (Aa hH)).trans hH) fun hH=>?_
     clear hK K
     have hbwv5:=hbwv4.trans (hbn.mono hbwv4.size)
     have hzv5:=bk hbn hzv4
     clear hbn
     refine tx 8 7 (.tuple #[wd ((g * p + val) % M),.int .u64 (((g * p + val) / M : Nat) : Int)]) hH ?_
     refine tx 9 16 (wd ((g * p + val) % M)) hH ?_
     refine tx 10 17 (.int .u64 (((g * p + val) / M : Nat) : Int)) hH ?_
     have c0:=bq hzv5 0 rfl
     have c1:=bq hzv5 1 rfl
     have c2:=bq hzv5 2 rfl
     have c3:=bq hzv5 3 rfl
     have d0:=Ai hzv5 0
     have d1:=Ai hzv5 1
     have d2:=Ai hzv5 2
     have d3:=Ai hzv5 3
     refine r1 12 fun K hK=>?_
     go_simp
     refine hK.out _ _ (Ae (Ae (Ae (Ae hH (by omega)) (by omega)) (by omega)) (by omega)) fun hH=>?_
     clear hK K
     refine tx 13 6 (.int .u64 (((g * p + val) / M : Nat) : Int)) hH ?_
     refine dn ?_
     obtain ⟨zz,hzz⟩ : ∃ zz : Nat,zz = zz:=⟨0,rfl⟩
     exact ⟨rfl,zb,zz,rfl,_,Cx _ _ _ _ hzv5,(Ei v5 zb _ _ _ _),hbwv5,hzb⟩
  ·skip
   go_simp
   obtain ⟨zb,hzb0⟩ : ∃ zb,v0.heap.size = zb:=⟨_,rfl⟩
   have hzv6:=Al v0 (.cells wz 41)
   have hbn : Below v0.heap.size v0 (v0.alloc (.cells wz 41)):=ba
   have hzb : w1.heap.size <= zb:=by have:=hbwv0.size; omega
   rw [hzb0] at hzv6 ⊢
   have hbwv6:=hbwv0.trans (hbn.mono hbwv0.size)
   have hol : W.heap.size < w1.heap.size:=Aa ho
   refine hK.out _ (v0.alloc (.cells wz 41)) ((hbn.block _ (Aa hH)).trans hH) fun hH=>?_
   clear hK K hbn
   generalize v0.alloc (.cells wz 41) = v6 at hzv6 hbwv6 hH ⊢
   refine r1 4 fun K hK=>?_
   ·skip
    go_simp
    refine (Ik g p hg hp _).mono ?_
    rintro e v7 ⟨rfl,hbn⟩
    go_wp2_with fail
    refine hK.out _ _ ((hbn.block _ (Aa hH)).trans hH) fun hH=>?_
    clear hK K
    have hbwv7:=hbwv6.trans (hbn.mono hbwv6.size)
    have hzv7:=bk hbn hzv6
    clear hbn
    refine r1 7 fun K hK=>?_
    ·skip
     go_simp
     refine (sum (g * p) val hgM hv _).mono ?_
     rintro e v8 ⟨rfl,hbn⟩
     go_wp2_with fail
     refine hK.out _ _ ((hbn.block _ (Aa hH)).trans hH) fun hH=>?_
     clear hK K
     have hbwv8:=hbwv7.trans (hbn.mono hbwv7.size)
     have hzv8:=bk hbn hzv7
     clear hbn
     refine tx 8 7 (.tuple #[wd ((g * p + val) % M),.int .u64 (((g * p + val) / M : Nat) : Int)]) hH ?_
     refine tx 9 16 (wd ((g * p + val) % M)) hH ?_
     refine tx 10 17 (.int .u64 (((g * p + val) / M : Nat) : Int)) hH ?_
     have c0:=bq hzv8 0 rfl
     have c1:=bq hzv8 1 rfl
     have c2:=bq hzv8 2 rfl
     have c3:=bq hzv8 3 rfl
     have d0:=Ai hzv8 0
     have d1:=Ai hzv8 1
     have d2:=Ai hzv8 2
     have d3:=Ai hzv8 3
     refine r1 12 fun K hK=>?_
     go_simp
     refine hK.out _ _ (Ae (Ae (Ae (Ae hH (by omega)) (by omega)) (by omega)) (by omega)) fun hH=>?_
     clear hK K
     refine tx 13 6 (.int .u64 (((g * p + val) / M : Nat) : Int)) hH ?_
     refine dn ?_
     obtain ⟨zz,hzz⟩ : ∃ zz : Nat,zz = zz:=⟨0,rfl⟩
     exact ⟨rfl,zb,zz,rfl,_,Cx _ _ _ _ hzv8,(Ei v8 zb _ _ _ _),hbwv8,hzb⟩
 ·rintro zb z V ⟨v,hz,hpv,hbv,hzb⟩
  have hmod : (g * p + val) % M = g * p + val:=Nat.mod_eq_of_lt (by omega)
  have hdiv : (g * p + val) / M = 0:=Nat.div_eq_of_lt (by omega)
  rw [hmod] at hz
  rw [hmod,hdiv]
  have hnl:=Aa hn
  have hnv:=(hbv.block _ hnl).trans hn
  have hnV:=hpv.obj hnv (by show (41 : Nat) ∉ []; simp) (by simp; omega)
  have hbV : Below W.heap.size W V:=⟨hpv.os.trans (hbv.os.trans hb1.os),hpv.tape.trans (hbv.tape.trans hb1.tape),hpv.output.trans (hbv.output.trans hb1.output),Nat.le_trans hb1.size (Nat.le_trans hbv.size hpv.size),fun k hk=>by
   have h1:=hb1.block k hk
   have hk1 : k < w1.heap.size:=Nat.lt_of_lt_of_le hk hb1.size
   rcases hpv.block k (Nat.lt_of_lt_of_le hk1 hbv.size) (by simp; omega) with e | ⟨_,_,_,h0,_⟩
   ·exact e.trans ((hbv.block k hk1).trans h1)
   ·cases h0⟩
  have c0:=bq hnV 0 rfl
  have c1:=bq hnV 1 rfl
  have c2:=bq hnV 2 rfl
  have c3:=bq hnV 3 rfl
  have e0:=bq hz 0 rfl
  have e1:=bq hz 1 rfl
  have e2:=bq hz 2 rfl
  have e3:=bq hz 3 rfl
  have hls:=less bal (g * p + val) hb (by omega) V
  rw [decide_eq_false (by omega)] at hls
  obtain ⟨al,hal⟩ : ∃ al,g * p + val = al:=⟨_,rfl⟩
  rw [hal] at hls e0 e1 e2 e3 ⊢
  go_wp2_with fail
  refine hls.mono ?_
  rintro e V2 ⟨rfl,hb2⟩
  go_wp2
  go_ret
  exact ⟨rfl,hbV.trans (hb2.mono hbV.size)⟩
end
section
attribute [local go_sem] wd
theorem Tn {W : World} {l m : Nat} {dm : Dm} {cr : Int} {L : AL} {J : List Value} (h : LG W l m dm cr L J) {q : Int × Nat × Ac} (hq : q ∈ L) (hq0 : q.1 ≠ 0) (dst nonce : Int) (val g p : Nat) (miner : Int) (hd : dst ≠ 0) (h5 : 0 <= dst) (h6 : dst <= 4294967295) (h7 : 1 <= miner) (h8 : miner <= 4294967295) (h9 : 0 <= nonce) (h10 : nonce < 4611686018427387904) (hno : q.2.2.nonce = nonce) (hg0 : 21000 <= g) (hg1 : g <= 1000000) (hp1 : p <= 1000000) (hv : val < M) (hle : g * p + val <= q.2.2.bal) :
  Calls TryQ.prog 48 #[pq l 0,.agg (Bl q.1 dst nonce val g p miner)] W fun e w'=>e = .returned (.int .i64 0) /\ Below W.heap.size W w':=by
 have hg : g < 100000000:=by omega
 have hp : p < 100000000:=by omega
 have hb1 : Below W.heap.size W (W.alloc (.cells (Bl q.1 dst nonce val g p miner) 43)):=ba
 have ho:=Al W (.cells (Bl q.1 dst nonce val g p miner) 43)
 have hL:=h.below hb1
 have hol:=Aa ho
 have hal:=Agk q.1 dst nonce val g p miner (by omega) (by omega) (by omega) (by omega) h5 h6 h7 h8 h9 (W.alloc (.cells (Bl q.1 dst nonce val g p miner) 43))
 have hi1 : ¬ (g : Int) < 21000:=by omega
 have hi2 : ¬ (4611686018427387904 : Int) <= nonce:=by omega
 go_enter TryQ.func48,Tryz.ntmps48
 unfold Bl at hal ⊢
 go_wp2_with fail
 refine hal.mono ?_
 clear hal
 rintro e v1 ⟨rfl,hba⟩
 replace ho:=(hba.block _ hol).trans ho
 replace hL:=hL.below hba
 replace hol:=Aa ho
 have hbW : Below W.heap.size W v1:=hb1.trans (hba.mono hb1.size)
 have c0:=bq ho 0 rfl
 have hhas:=Adf hL hq
 go_wp2_with fail
 refine hhas.mono ?_
 rintro e w1 ⟨rfl,hw1⟩
 subst hw1
 clear hhas c0
 have hb0 : Below w1.heap.size w1 w1:=Below.refl _ _
 go_wp2_with fail
 refine rq (fun V=>Below w1.heap.size w1 V) hb0.drew fun hH=>?_
 refine tx 0 21 (pq W.heap.size 2) hH ?_
 refine td (i:=1) (d:=some 22) (v:=.int .i64 nonce) rfl rfl (fun V hW=>?_) hH ?_
 ·have k0:=Ad ((hW.block _ hol).trans ho) 2
  simp only [Bl,List.getElem?_toArray,List.getElem?_cons_zero,List.getElem?_cons_succ] at k0
  clear hW hH
  go_simp
 refine tx 2 23 (pq l 0) hH ?_
 refine tx 3 24 (pq W.heap.size 0) hH ?_
 refine td (i:=4) (d:=some 25) (v:=.int .i64 q.1) rfl rfl (fun V hW=>?_) hH ?_
 ·have k0:=Ad ((hW.block _ hol).trans ho) 0
  simp only [Bl,List.getElem?_toArray,List.getElem?_cons_zero] at k0
  clear hW hH
  go_simp
 refine r1 5 fun K hK=>?_
 go_simp
 refine (Alf (hL.below hH) hq).mono ?_
 rintro e V5 ⟨rfl,hbn⟩
 go_wp2_with fail
 refine hK.out _ _ (hH.trans (hbn.mono hH.size)) fun hH=>?_
 clear hK K
 clear hbn
 refine tx 6 27 (.bool false) hH ?_
 refine tx 7 28 (.bool false) hH ?_
 refine tx 8 29 (pq W.heap.size 2) hH ?_
 refine td (i:=9) (d:=some 30) (v:=.int .i64 nonce) rfl rfl (fun V hW=>?_) hH ?_
 ·have k0:=Ad ((hW.block _ hol).trans ho) 2
  simp only [Bl,List.getElem?_toArray,List.getElem?_cons_zero,List.getElem?_cons_succ] at k0
  clear hW hH
  go_simp
 refine tx 10 31 (.bool false) hH ?_
 refine tx 11 32 (.bool false) hH ?_
 refine tx 12 20 (.bool false) hH ?_
 refine dn ?_
 go_wp2_with fail
 refine rq (fun V=>Below w1.heap.size w1 V) hH.drew fun hH=>?_
 refine tx 0 34 (pq W.heap.size 7) hH ?_
 refine td (i:=1) (d:=some 35) (v:=.int .i64 (g : Int)) rfl rfl (fun V hW=>?_) hH ?_
 ·have k0:=Ad ((hW.block _ hol).trans ho) 7
  simp only [Bl,List.getElem?_toArray,List.getElem?_cons_zero,List.getElem?_cons_succ] at k0
  clear hW hH
  go_simp
 refine td (i:=2) (d:=some 36) (v:=.agg (Bl q.1 dst nonce val g p miner)) rfl rfl (fun V hW=>?_) hH ?_
 ·unfold Bl
  have k0:=Ad ((hW.block _ hol).trans ho) 0
  have k1:=Ad ((hW.block _ hol).trans ho) 1
  have k2:=Ad ((hW.block _ hol).trans ho) 2
  have k3:=Ad ((hW.block _ hol).trans ho) 3
  have k4:=Ad ((hW.block _ hol).trans ho) 4
  have k5:=Ad ((hW.block _ hol).trans ho) 5
  have k6:=Ad ((hW.block _ hol).trans ho) 6
  have k7:=Ad ((hW.block _ hol).trans ho) 7
  have k8:=Ad ((hW.block _ hol).trans ho) 8
  have k9:=Ad ((hW.block _ hol).trans ho) 9
  have k10:=Ad ((hW.block _ hol).trans ho) 10
  simp only [Bl,List.getElem?_toArray,List.getElem?_cons_zero,List.getElem?_cons_succ] at k0 k1 k2 k3 k4 k5 k6 k7 k8 k9 k10
  clear hW hH
  go_simp
 refine r1 3 fun K hK=>?_
 go_simp
 refine (Mj q.1 dst nonce val g p miner hd _).mono ?_
 rintro e V7 ⟨rfl,hbn⟩
 go_wp2_with fail
 refine hK.out _ _ (hH.trans (hbn.mono hH.size)) fun hH=>?_
 clear hK K
 clear hbn
 refine tx 4 38 (.bool false) hH ?_
 refine tx 5 33 (.bool false) hH ?_
 refine dn ?_
 go_wp2_with fail
 refine rq (fun V=>Below w1.heap.size w1 V) hH.drew fun hH=>?_
 refine td (i:=0) (d:=some 40) (v:=.agg (Bl q.1 dst nonce val g p miner)) rfl rfl (fun V hW=>?_) hH ?_
 ·unfold Bl
  have k0:=Ad ((hW.block _ hol).trans ho) 0
  have k1:=Ad ((hW.block _ hol).trans ho) 1
  have k2:=Ad ((hW.block _ hol).trans ho) 2
  have k3:=Ad ((hW.block _ hol).trans ho) 3
  have k4:=Ad ((hW.block _ hol).trans ho) 4
  have k5:=Ad ((hW.block _ hol).trans ho) 5
  have k6:=Ad ((hW.block _ hol).trans ho) 6
  have k7:=Ad ((hW.block _ hol).trans ho) 7
  have k8:=Ad ((hW.block _ hol).trans ho) 8
  have k9:=Ad ((hW.block _ hol).trans ho) 9
  have k10:=Ad ((hW.block _ hol).trans ho) 10
  simp only [Bl,List.getElem?_toArray,List.getElem?_cons_zero,List.getElem?_cons_succ] at k0 k1 k2 k3 k4 k5 k6 k7 k8 k9 k10
  clear hW hH
  go_simp
 refine tx 1 41 (pq l 0) hH ?_
 refine tx 2 42 (pq W.heap.size 0) hH ?_
 refine td (i:=3) (d:=some 43) (v:=.int .i64 q.1) rfl rfl (fun V hW=>?_) hH ?_
 ·have k0:=Ad ((hW.block _ hol).trans ho) 0
  simp only [Bl,List.getElem?_toArray,List.getElem?_cons_zero] at k0
  clear hW hH
  go_simp
 refine r1 4 fun K hK=>?_
 go_simp
 refine (Ny (hL.below hH) hq).mono ?_
 rintro e V9 ⟨rfl,hbn⟩
 go_wp2_with fail
 refine hK.out _ _ (hH.trans (hbn.mono hH.size)) fun hH=>?_
 clear hK K
 clear hbn
 refine r1 5 fun K hK=>?_
 go_simp
 refine (Aeq q.1 dst nonce val g p miner q.2.2.bal hg hp hv (hL.bal q hq) hle _).mono ?_
 rintro e V10 ⟨rfl,hbn⟩
 go_wp2_with fail
 refine hK.out _ _ (hH.trans (hbn.mono hH.size)) fun hH=>?_
 clear hK K
 clear hbn
 refine tx 6 46 (.bool false) hH ?_
 refine tx 7 39 (.bool false) hH ?_
 refine dn ?_
 go_wp2
 go_ret
 exact ⟨rfl,hbW.trans (hH.mono hbW.size)⟩
end
section
attribute [local go_sem] wd
theorem Ah6 {W : World} {l m : Nat} {dm : Dm} {cr : Int} {L : AL} {J : List Value} (h : LG W l m dm cr L J) {q : Int × Nat × Ac} (hq : q ∈ L) (dst nonce : Int) (val g p left k : Nat) (hk : g = left + k) (hg : g <= 1000000) (hp1 : p <= 1000000) (hJ : J.length + 1 < 1000000) :
  Calls TryQ.prog 54 #[pq l 0,.agg (Bl q.1 dst nonce val g p q.1),.int .i64 (left : Int),.int .i64 0] W fun e w'=>∃ a1 a2 J',e = .returned (.int .i64 (k : Int)) /\ a2.sl = q.2.2.sl /\ LG w' l m dm cr (Ce (Ce L q.2.1 a1) q.2.1 a2) J' /\ Pres [l,q.2.1] [262] W w':=by
 have hp : p < 100000000:=by omega
 have hl1 : left < 100000000:=by omega
 have hlM : left * p < M:=Nat.lt_of_lt_of_le (Nat.mul_lt_mul'' hl1 hp) (by decide)
 have hk1 : k < 100000000:=by omega
 have hkM : k * p < M:=Nat.lt_of_lt_of_le (Nat.mul_lt_mul'' hk1 hp) (by decide)
 have hb0 : Below W.heap.size W (W.alloc (.cells (Bl q.1 dst nonce val g p q.1) 43)):=ba
 have ho:=Al W (.cells (Bl q.1 dst nonce val g p q.1) 43)
 have hL:=h.below hb0
 have hln:=h.cell0.1
 have hqn:=Aa (h.acc q hq)
 have i1 : IntKind.i64.wrap ((g : Int) - (left : Int)) = (k : Int):=by rw [show (g : Int) - (left : Int) = (k : Int) by omega]; exact IntWalk.i64_in _ ⟨by omega,by omega⟩
 have i2 : IntKind.i64.wrap (k : Int) = (k : Int):=IntWalk.i64_in _ ⟨by omega,by omega⟩
 have i3 : IntKind.i64.wrap ((g : Int) - (k : Int)) = (left : Int):=by rw [show (g : Int) - (k : Int) = (left : Int) by omega]; exact IntWalk.i64_in _ ⟨by omega,by omega⟩
 clear hk hg hp1
 go_enter TryQ.func54,Tryz.ntmps54
 unfold Bl
 go_wp2_with fail
 change Code.wp _ _ _ _ (W.alloc (.cells (Bl q.1 dst nonce val g p q.1) 43))
 generalize W.alloc (.cells (Bl q.1 dst nonce val g p q.1) 43) = w1 at hb0 ho hL ⊢
 refine rq (fun V=>V.heap[W.heap.size]? = ob (Bl q.1 dst nonce val g p q.1) 43) ho fun hH=>?_
 refine tx 0 20 (pq l 0) hH ?_
 refine tx 1 21 (pq W.heap.size 0) hH ?_
 refine tv 2 22 (.int .i64 q.1) (fun _ hW=>bq hW 0 rfl) hH ?_
 refine tx 3 23 (pq W.heap.size 7) hH ?_
 refine tv 4 24 (.int .i64 (g : Int)) (fun _ hW=>bq hW 7 rfl) hH ?_
 refine tx 5 25 (.int .i64 (k : Int)) hH ?_
 refine tx 6 26 (.int .i64 (left : Int)) hH ?_
 refine tx 7 27 (pq W.heap.size 8) hH ?_
 refine tv 8 28 (.int .i64 (p : Int)) (fun _ hW=>bq hW 8 rfl) hH ?_
 refine r1 9 fun K hK=>?_
 go_simp
 refine (Ik left p hl1 hp _).mono ?_
 rintro e V1 ⟨rfl,hbn⟩
 go_wp2_with fail
 refine hK.out _ _ ((hbn.block _ (Aa hH)).trans hH) fun hH=>?_
 clear hK K
 have hb1 : Below w1.heap.size w1 V1:=(Below.refl _ _).drew.trans hbn
 have hL1:=hL.below hb1
 refine r1 10 fun K hK=>?_
 go_simp
 refine (Vg hL1 hq (left * p) hlM (by omega)).mono ?_
 rintro e V2 ⟨rfl,hL2,hp2⟩
 go_wp2_with fail
 refine hK.out _ _ (hp2.obj hH (by show (43 : Nat) ∉ [262]; decide) (by simp; omega)) fun hH=>?_
 clear hK K
 refine dn ?_
 go_wp2_with fail
 refine rq (fun V=>V.heap[W.heap.size]? = ob (Bl q.1 dst nonce val g p q.1) 43) hH fun hH=>?_
 refine tx 0 31 (pq l 0) hH ?_
 refine tx 1 32 (pq W.heap.size 10) hH ?_
 refine tv 2 33 (.int .i64 q.1) (fun _ hW=>bq hW 10 rfl) hH ?_
 refine tx 3 34 (.int .i64 (k : Int)) hH ?_
 refine tx 4 35 (pq W.heap.size 8) hH ?_
 refine tv 5 36 (.int .i64 (p : Int)) (fun _ hW=>bq hW 8 rfl) hH ?_
 refine r1 6 fun K hK=>?_
 go_simp
 refine (Ik k p hk1 hp _).mono ?_
 rintro e V3 ⟨rfl,hbn3⟩
 go_wp2_with fail
 refine hK.out _ _ ((hbn3.block _ (Aa hH)).trans hH) fun hH=>?_
 clear hK K
 have hb3 : Below V2.heap.size V2 V3:=(Below.refl _ _).drew.trans hbn3
 have hL3:=hL2.below hb3
 refine r1 7 fun K hK=>?_
 go_simp
 refine (Vg hL3 (Fx hq _) (k * p) hkM (by simp; omega)).mono ?_
 rintro e V4 ⟨rfl,hL4,hp4⟩
 go_wp2_with fail
 refine hK.out _ _ (hp4.obj hH (by show (43 : Nat) ∉ [262]; decide) (by simp; omega)) fun hH=>?_
 clear hK K
 refine dn ?_
 go_wp2
 go_ret
 exact ⟨_,_,_,rfl,by rfl,hL4,Pres.trans (.of_below (hb0.trans (hb1.mono hb0.size)) _ _) (Pres.trans hp2 (Pres.trans (.of_below hb3 _ _) hp4))⟩
end
section
attribute [local go_sem] wd
def jBe (k : Int) : Value:=.iface 210 (.agg #[.int .i64 k])
theorem Agr (i : Nat) : lim 0 i = 0:=by simp [lim]
theorem Akz {mt : TypeId} (w : World) : (Instr.makeMap mt none).run TryQ.prog w = .ok (.map (some w.heap.size)) (w.alloc (.map #[] 0)):=by
 unfold Instr.makeMap
 simp
section
variable {W : World} {l m : Nat} {dm : Dm} {cr : Int} {L : AL} {J : List Value}
theorem Ad3 (h : LG W l m dm cr L J) (k : Int) (hk : k ∉ L.map (·.1)) (hJ : J.length < 1000000) :
  Calls TryQ.prog 87 #[pq l 0,.int .i64 k] W fun e w'=>e = .returned (pq (W.heap.size + 1) 0) /\ LG w' l m dm cr (L ++ [(k,W.heap.size + 1,⟨0,0,⟨#[]⟩,⟨none,0,0⟩,W.heap.size,[]⟩)]) (J ++ [jBe k]) /\ Pres [l,m] [262] W w':=by
 have hl:=h.nolook hk (W':=W) rfl
 obtain ⟨hlt,hc⟩:=h.cell0
 have hmk:=fun W=>Akz (mt:=133) W
 have hb1 : Below W.heap.size W ((W.alloc (.map #[] 0)).alloc (.cells (Bd ⟨0,0,⟨#[]⟩,⟨none,0,0⟩,W.heap.size,[]⟩) 136)):=ba.alloc (by simp) _
 have hL1:=h.below hb1
 have hc1:=hL1.cell0.2
 have hnm : MapB wd ((W.alloc (.map #[] 0)).alloc (.cells (Bd ⟨0,0,⟨#[]⟩,⟨none,0,0⟩,W.heap.size,[]⟩) 136)) W.heap.size []:=(MapB.new wd W).below ba
 have hna : ((W.alloc (.map #[] 0)).alloc (.cells (Bd ⟨0,0,⟨#[]⟩,⟨none,0,0⟩,W.heap.size,[]⟩) 136)).heap[W.heap.size + 1]? = ob (Bd ⟨0,0,⟨#[]⟩,⟨none,0,0⟩,W.heap.size,[]⟩) 136:=by
  have:=Al (W.alloc (.map #[] 0)) (.cells (Bd ⟨0,0,⟨#[]⟩,⟨none,0,0⟩,W.heap.size,[]⟩) 136)
  simpa using this
 have hml:=h.map.lt
 have hdl:=h.dmap.lt
 have hlo1 : BaseB.b0 <= W.heap.size:=Nat.le_trans h.lj.lo (Nat.le_of_lt hlt)
 go_enter TryQ.func87,Tryz.ntmps87
 unfold Bd at hb1 hL1 hc1 hnm hna
 simp only [Agr] at hb1 hL1 hc1 hnm hna
 go_wp2_with fail
 refine Eo intKeys u124 (k:=k) (v:=pq (W.heap.size + 1) 0) hL1.map trivial (fun _ _=>trivial) (fun o' hM'=>?_)
 have hnk : k ∉ (ids L).map (·.1):=fun hm=>hk (by rw [show (ids L).map (·.1) = L.map (·.1) by unfold ids; rw [List.map_map]; rfl] at hm; exact hm)
 rw [Lf _ _ _ hnk] at hM'
 have hp2:=Pres.setMap ((((W.alloc (.map #[] 0)).alloc (.cells (Bd ⟨0,0,⟨#[]⟩,⟨none,0,0⟩,W.heap.size,[]⟩) 136))) : World) m o'
 unfold Bd at hp2
 simp only [Agr] at hp2
 generalize hw1 : ((W.alloc (.map #[] 0)).alloc (.cells #[.int .u64 0,.int .u64 0,.int .u64 0,.int .u64 0,.int .i64 0,.string ⟨#[]⟩,.slice none 0 0,.map (some W.heap.size)] 136)) = w1 at hb1 hL1 hc1 hnm hna hM' hp2 ⊢
 generalize ({ w1 with heap:=w1.heap.setIfInBounds m o' } : World) = w2 at hM' hp2 ⊢
 obtain ⟨jv,hlo',hown⟩:=hL1.lj.ex
 obtain ⟨ems,ecl,hmo⟩ : ∃ es c,w1.heap[m]? = some (.map es c):=let ⟨es,c,h1,_⟩:=hL1.map; ⟨es,c,h1⟩
 have hmap : ∀ {κ : Type} {kf : κ -> Value} {r : Nat} {x : List (κ × Value)},MapB kf w1 r x -> r ≠ m -> MapB kf w2 r x:=fun {κ kf r x} hx hr=>by
  obtain ⟨es,c,he⟩ : ∃ es c,w1.heap[r]? = some (.map es c):=let ⟨es,c,h1,_⟩:=hx; ⟨es,c,h1⟩
  exact hx.same ((hp2.obj he trivial (by simpa using hr)).trans he.symm)
 have hrow : ∀ {b : Nat} {c : Array Value} {t : TypeId} {f : Nat × Nat},w1.heap[b]? = some (.cells c t f) -> w2.heap[b]? = some (.cells c t f):=fun {b c t f} hb=>hp2.obj hb (by simp [I8]) (by simpa using Ci hb hmo (fun e=>by cases e))
 have hL2 : LG w2 l m dm cr (L ++ [(k,W.heap.size + 1,⟨0,0,⟨#[]⟩,⟨none,0,0⟩,W.heap.size,[]⟩)]) J:=by
  have hold : ∀ q ∈ L,q.2.1 < W.heap.size /\ q.2.2.ms < W.heap.size:=fun q hq=>⟨Aa (h.acc q hq),(h.slot q hq).lt⟩
  refine ⟨⟨h.lj.lo,jv,hrow hlo',Cw hown fun g hg=>?_⟩,?_,hmap hL1.dmap (Ne.symm h.nmd),fun q hq=>?_,fun q hq=>?_,?_,?_,fun q hq=>?_,fun q hq p hp=>?_,fun q hq=>?_,?_,fun q hq=>?_,h.nmd,h.ndd,fun q hq=>?_,h.mlo⟩
  ·obtain ⟨cur,hcur⟩:=Cj hown g hg
   exact (hrow hcur).trans hcur.symm
  ·have e : ids (L ++ [(k,W.heap.size + 1,⟨0,0,⟨#[]⟩,⟨none,0,0⟩,W.heap.size,[]⟩)]) = ids L ++ [(k,pq (W.heap.size + 1) 0)]:=by unfold ids; rw [List.map_append]; rfl
   rw [e]; exact hM'
  ·rcases List.mem_append.1 hq with hq | hq
   ·exact hrow (hL1.acc q hq)
   ·rw [List.mem_singleton.1 hq]
    show w2.heap[W.heap.size + 1]? = ob (Bd ⟨0,0,⟨#[]⟩,⟨none,0,0⟩,W.heap.size,[]⟩) 136
    unfold Bd
    simp only [Agr]
    exact hrow hna
  ·rcases List.mem_append.1 hq with hq | hq
   ·exact hmap (hL1.slot q hq) (h.nms q hq).1
   ·rw [List.mem_singleton.1 hq]
    exact hmap hnm (by show W.heap.size ≠ m; omega)
  ·rw [List.map_append,List.nodup_append]
   refine ⟨h.nd,by simp,fun x hx y hy e=>?_⟩
   simp at hy
   rw [e,hy] at hx
   exact hk hx
  ·rw [List.map_append,List.nodup_append]
   refine ⟨h.ndb,by simp,fun x hx y hy e=>?_⟩
   obtain ⟨q,hq,rfl⟩:=List.mem_map.1 hx
   simp at hy
   have:=(hold q hq).1
   omega
  ·rcases List.mem_append.1 hq with hq | hq
   ·exact h.bal q hq
   ·rw [List.mem_singleton.1 hq]; show 0 < M; decide
  ·rcases List.mem_append.1 hq with hq | hq
   ·exact h.key q hq p hp
   ·rw [List.mem_singleton.1 hq] at hp; cases hp
  ·rcases List.mem_append.1 hq with hq | hq
   ·exact h.ndk q hq
   ·rw [List.mem_singleton.1 hq]; exact List.nodup_nil
  ·rw [List.map_append,List.nodup_append]
   refine ⟨h.ndm,by simp,fun x hx y hy e=>?_⟩
   obtain ⟨q,hq,rfl⟩:=List.mem_map.1 hx
   simp at hy
   have:=(hold q hq).2
   omega
  ·rcases List.mem_append.1 hq with hq | hq
   ·exact h.nms q hq
   ·rw [List.mem_singleton.1 hq]
    show W.heap.size ≠ m /\ W.heap.size ≠ dm.b
    omega
  ·rcases List.mem_append.1 hq with hq | hq
   ·exact h.lo q hq
   ·rw [List.mem_singleton.1 hq]
    show BaseB.b0 <= W.heap.size + 1 /\ BaseB.b0 <= W.heap.size
    omega
 have hnt:=note l m cr dm.b J 210 (.agg #[.int .i64 k]) _ hL2.lj hJ
 have hpA : Pres [l,m] [262] W w2:=(Pres.of_below hb1 _ _).trans (hp2.mono (fun k _ hk=>by simp at hk; simp [hk]) (fun t ht=>by cases ht))
 clear hM' hc1 hc hl hmk
 go_wp2_with fail
 refine hnt.mono ?_
 rintro e w3 ⟨rfl,hlj3,hp3⟩
 clear hnt
 go_wp2
 go_ret
 refine ⟨rfl,hL2.pres hlj3 hp3 (by decide) (fun k hk o ho=>?_),hpA.trans (hp3.mono (fun k _ hk=>by simp at hk; simp [hk]) (fun t ht=>ht))⟩
 obtain rfl : k = l:=by simpa using hk
 rw [hrow hlo'] at ho
 cases ho
 exact ⟨_,_,_,rfl,by decide⟩
end
end
section
attribute [local go_sem] wd
theorem Aee {L : AL} {k : Int} {b : Nat} {a a' : Ac} (h : ∀ q ∈ L,q.2.1 ≠ b) : Ce (L ++ [(k,b,a)]) b a' = L ++ [(k,b,a')]:=by
 unfold Ce
 rw [List.map_append]
 congr 1
 ·conv=>rhs; rw [<- List.map_id L]
  refine List.map_congr_left fun q hq=>?_
  rw [if_neg (h q hq)]
  rfl
 ·simp
section
variable {W : World} {l m : Nat} {dm : Dm} {cr : Int} {L : AL} {J : List Value}
theorem Al6 (h : LG W l m dm cr L J) (k : Int) (hk : k ∉ L.map (·.1)) (x : Nat) (hx : x < M) (hJ : J.length + 1 < 1000000) :
  Calls TryQ.prog 94 #[pq l 0,.int .i64 k,wd x] W fun e w'=>e = .returned (.tuple #[]) /\ (∃ pa ms,W.heap.size <= pa /\ LG w' l m dm cr (L ++ [(k,pa,⟨x,0,⟨#[]⟩,⟨none,0,0⟩,ms,[]⟩)]) (J ++ [jBe k] ++ [Hg pa 0])) /\ Pres [l,m] [262] W w':=by
 have hbx : Below W.heap.size W (W.alloc (.cells (wq x) 41)):=ba
 have hL0:=h.below hbx
 have hn0:=Al W (.cells (wq x) 41)
 have hto:=Ad3 hL0 k hk (by omega)
 have hmn:=h.map.lt
 have hln:=h.cell0.1
 go_enter TryQ.func94,Tryz.ntmps94
 go_wp2_with fail
 refine hto.mono ?_
 rintro e w1 ⟨rfl,hL1,hpt⟩
 clear hto
 have hn : w1.heap[W.heap.size]? = _:=hpt.obj hn0 (by show (41 : Nat) ∉ [262]; decide) (by simp; omega)
 have hpn : Pres [l,m] [262] W w1:=(Pres.of_below hbx _ _).trans hpt
 have hbs : (W.alloc (.cells (wq x) 41)).heap.size = W.heap.size + 1:=by simp
 simp only [hbs] at hL1 ⊢
 obtain ⟨q,hqe⟩ : ∃ q : Int × Nat × Ac,q = (k,W.heap.size + 1 + 1,⟨0,0,⟨#[]⟩,⟨none,0,0⟩,W.heap.size + 1,[]⟩):=⟨_,rfl⟩
 have hq : q ∈ L ++ [(k,W.heap.size + 1 + 1,⟨0,0,⟨#[]⟩,⟨none,0,0⟩,W.heap.size + 1,[]⟩)]:=by rw [hqe]; simp
 have hq21 : q.2.1 = W.heap.size + 1 + 1:=by rw [hqe]
 rw [<- hq21]
 have hqb : q.2.2.bal < M:=by rw [hqe]; show 0 < M; decide
 have hv : (q.2.2.bal + x) % M < M:=Nat.mod_lt _ (by decide)
 have hqes : Shut (q = (k,W.heap.size + 1 + 1,⟨0,0,⟨#[]⟩,⟨none,0,0⟩,W.heap.size + 1,[]⟩)):=hqe
 have hqle : W.heap.size + 1 < q.2.1:=by omega
 clear hqe hq21
 have hq1:=hL1.acc q hq
 have hql:=Aa hq1
 have c0:=bq hq1 0 rfl
 have c1:=bq hq1 1 rfl
 have c2:=bq hq1 2 rfl
 have c3:=bq hq1 3 rfl
 have hl1:=hL1.cell0.1
 go_wp2_with fail
 refine rq (fun V=>V.heap[W.heap.size]? = ob (wq x) 41) hn fun hH=>?_
 refine tx 0 10 (pq l 0) hH ?_
 refine tx 1 11 (pq q.2.1 0) hH ?_
 refine tx 2 12 (pq q.2.1 0) hH ?_
 refine tx 3 13 (pq q.2.1 0) hH ?_
 refine tx 4 14 (pq q.2.1 0) hH ?_
 refine tv 6 16 (wd x) (fun _ hW=>aq (bq hW 0 rfl) (aq (bq hW 1 rfl) (aq (bq hW 2 rfl) (bq hW 3 rfl)))) hH ?_
 refine r1 5 fun K hK=>?_
 go_simp
 refine hK.out _ _ hH fun hH=>?_
 clear hK K
 clear c0 c1 c2 c3
 refine r1 7 fun K hK=>?_
 go_simp
 refine (add q.2.2.bal x hqb hx _).mono ?_
 rintro e W1 ⟨rfl,hbn⟩
 go_wp2_with fail
 refine hK.out _ _ ((hbn.block _ (Aa hH)).trans hH) fun hH=>?_
 clear hK K
 have hb1 : Below w1.heap.size w1 W1:=(Below.refl _ _).drew.trans hbn
 have hLW:=hL1.below hb1
 refine r1 8 fun K hK=>?_
 go_simp
 refine (Kt hLW hq ((q.2.2.bal + x) % M) hv (by simp; omega)).mono ?_
 rintro e W2 ⟨rfl,hL2,hp2⟩
 go_wp2_with fail
 refine hK.out _ _ (hp2.obj hH (by show (41 : Nat) ∉ [262]; decide) (by simp; omega)) fun hH=>?_
 clear hK K
 refine dn ?_
 show bodyPost TryQ.prog Tryz.f94 _ Exit.normal _ _
 simp [bodyPost,results,Tryz.results94,go_sem]
 have hqe:=hqes.out
 have hqL : ∀ z ∈ L,z.2.1 ≠ q.2.1:=fun z hz e=>by
  have:=Aa (h.acc z hz)
  omega
 have hbq : q.2.2.bal = 0:=by rw [hqe]
 have hxm : (q.2.2.bal + x) % M = x:=by rw [hbq,Nat.zero_add]; exact Nat.mod_eq_of_lt hx
 rw [hxm,hbq] at hL2
 rw [hqe] at hL2 hqL
 rw [Aee hqL] at hL2
 refine ⟨⟨W.heap.size + 1 + 1,by omega,W.heap.size + 1,by simpa using hL2⟩,(hpn.trans (.of_below hb1 _ _)).thenx hp2 (fun k hk=>?_)⟩
 simp only [List.mem_cons,List.not_mem_nil,or_false] at hk
 rcases hk with rfl | rfl
 ·exact .inl (by simp)
 ·exact .inr (by omega)
end
end
section
attribute [local go_sem] wd
theorem Aed {W : World} {l m : Nat} {dm : Dm} {cr : Int} {L : AL} {J : List Value} (h : LG W l m dm cr L J) {q : Int × Nat × Ac} (hq : q ∈ L) (mi : Int) (hmi : mi ∉ L.map (·.1)) (dst nonce : Int) (val g p left k : Nat) (hk : g = left + k) (hg : g <= 1000000) (hp1 : p <= 1000000) (hJ : J.length + 2 < 1000000) :
  Calls TryQ.prog 54 #[pq l 0,.agg (Bl q.1 dst nonce val g p mi),.int .i64 (left : Int),.int .i64 0] W fun e w'=>e = .returned (.int .i64 (k : Int)) /\ (∃ pa ms J',W.heap.size <= pa /\ LG w' l m dm cr (Ce L q.2.1 { q.2.2 with bal:=(q.2.2.bal + left * p) % M } ++ [(mi,pa,⟨k * p,0,⟨#[]⟩,⟨none,0,0⟩,ms,[]⟩)]) J') /\ Pres [l,q.2.1,m] [262] W w':=by
 have hp : p < 100000000:=by omega
 have hl1 : left < 100000000:=by omega
 have hlM : left * p < M:=Nat.lt_of_lt_of_le (Nat.mul_lt_mul'' hl1 hp) (by decide)
 have hk1 : k < 100000000:=by omega
 have hkM : k * p < M:=Nat.lt_of_lt_of_le (Nat.mul_lt_mul'' hk1 hp) (by decide)
 have hb0 : Below W.heap.size W (W.alloc (.cells (Bl q.1 dst nonce val g p mi) 43)):=ba
 have ho:=Al W (.cells (Bl q.1 dst nonce val g p mi) 43)
 have hL:=h.below hb0
 have hln:=h.cell0.1
 have hqn:=Aa (h.acc q hq)
 have i1 : IntKind.i64.wrap ((g : Int) - (left : Int)) = (k : Int):=by rw [show (g : Int) - (left : Int) = (k : Int) by omega]; exact IntWalk.i64_in _ ⟨by omega,by omega⟩
 have i2 : IntKind.i64.wrap (k : Int) = (k : Int):=IntWalk.i64_in _ ⟨by omega,by omega⟩
 have i3 : IntKind.i64.wrap ((g : Int) - (k : Int)) = (left : Int):=by rw [show (g : Int) - (k : Int) = (left : Int) by omega]; exact IntWalk.i64_in _ ⟨by omega,by omega⟩
 clear hk hg hp1
 go_enter TryQ.func54,Tryz.ntmps54
 unfold Bl
 go_wp2_with fail
 change Code.wp _ _ _ _ (W.alloc (.cells (Bl q.1 dst nonce val g p mi) 43))
 generalize W.alloc (.cells (Bl q.1 dst nonce val g p mi) 43) = w1 at hb0 ho hL ⊢
 refine rq (fun V=>V.heap[W.heap.size]? = ob (Bl q.1 dst nonce val g p mi) 43) ho fun hH=>?_
 refine tx 0 20 (pq l 0) hH ?_
 refine tx 1 21 (pq W.heap.size 0) hH ?_
 refine tv 2 22 (.int .i64 q.1) (fun _ hW=>bq hW 0 rfl) hH ?_
 refine tx 3 23 (pq W.heap.size 7) hH ?_
 refine tv 4 24 (.int .i64 (g : Int)) (fun _ hW=>bq hW 7 rfl) hH ?_
 refine tx 5 25 (.int .i64 (k : Int)) hH ?_
 refine tx 6 26 (.int .i64 (left : Int)) hH ?_
 refine tx 7 27 (pq W.heap.size 8) hH ?_
 refine tv 8 28 (.int .i64 (p : Int)) (fun _ hW=>bq hW 8 rfl) hH ?_
 refine r1 9 fun K hK=>?_
 go_simp
 refine (Ik left p hl1 hp _).mono ?_
 rintro e V1 ⟨rfl,hbn⟩
 go_wp2_with fail
 refine hK.out _ _ ((hbn.block _ (Aa hH)).trans hH) fun hH=>?_
 clear hK K
 have hb1 : Below w1.heap.size w1 V1:=(Below.refl _ _).drew.trans hbn
 have hL1:=hL.below hb1
 refine r1 10 fun K hK=>?_
 go_simp
 refine (Vg hL1 hq (left * p) hlM (by omega)).mono ?_
 rintro e V2 ⟨rfl,hL2,hp2⟩
 go_wp2_with fail
 refine hK.out _ _ (hp2.obj hH (by show (43 : Nat) ∉ [262]; decide) (by simp; omega)) fun hH=>?_
 clear hK K
 refine dn ?_
 go_wp2_with fail
 refine rq (fun V=>V.heap[W.heap.size]? = ob (Bl q.1 dst nonce val g p mi) 43) hH fun hH=>?_
 refine tx 0 31 (pq l 0) hH ?_
 refine tx 1 32 (pq W.heap.size 10) hH ?_
 refine tv 2 33 (.int .i64 mi) (fun _ hW=>bq hW 10 rfl) hH ?_
 refine tx 3 34 (.int .i64 (k : Int)) hH ?_
 refine tx 4 35 (pq W.heap.size 8) hH ?_
 refine tv 5 36 (.int .i64 (p : Int)) (fun _ hW=>bq hW 8 rfl) hH ?_
 refine r1 6 fun K hK=>?_
 go_simp
 refine (Ik k p hk1 hp _).mono ?_
 rintro e V3 ⟨rfl,hbn3⟩
 go_wp2_with fail
 refine hK.out _ _ ((hbn3.block _ (Aa hH)).trans hH) fun hH=>?_
 clear hK K
 have hb3 : Below V2.heap.size V2 V3:=(Below.refl _ _).drew.trans hbn3
 have hL3:=hL2.below hb3
 refine r1 7 fun K hK=>?_
 go_simp
 refine (Al6 hL3 mi (by rw [Qb]; exact hmi) (k * p) hkM (by simp; omega)).mono ?_
 rintro e V4 ⟨rfl,⟨pa,ms,hpa,hL4⟩,hp4⟩
 go_wp2_with fail
 refine hK.out _ _ (hp4.obj hH (by show (43 : Nat) ∉ [262]; decide) (by have:=h.map.lt; simp; omega)) fun hH=>?_
 clear hK K
 refine dn ?_
 go_wp2
 go_ret
 have hA : Pres [l,q.2.1,m] [262] W V3:=Pres.trans (.of_below (hb0.trans (hb1.mono hb0.size)) _ _) (Pres.trans (hp2.mono (fun k _ hk=>by simp at hk; simp; omega) (fun t ht=>ht)) (.of_below hb3 _ _))
 exact ⟨rfl,⟨pa,ms,_,Nat.le_trans hA.size hpa,hL4⟩,hA.trans (hp4.mono (fun k _ hk=>by simp at hk; simp; omega) (fun t ht=>ht))⟩
end
end Go.Mark
