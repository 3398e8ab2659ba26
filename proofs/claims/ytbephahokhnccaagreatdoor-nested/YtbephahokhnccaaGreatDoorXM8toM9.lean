import Derived.Test.YtbephahokhnccaaGreatDoorL30
set_option linter.unusedSectionVars false
set_option maxRecDepth 100000
set_option maxHeartbeats 8000000
namespace Go.Mark
open Go.RowKit Go.Proofs Go.Lift
variable [BaseB]
section
attribute [local go_sem] wd
def hd27 : Code -> Code
  | .seq c _=>c
  | c=>c
def Xf : Nat -> Code -> Code
  | 0,c=>c
  | k + 1,.seq _ c=>Xf k c
  | _,c=>c
noncomputable def n27 (k : Nat) : Code:=hd27 (Xf k (Tryz.f27.body.getD .skip))
theorem Aj5 (T : Array Value) (n : Nat) (h : T.size = n) : T = ⟨(List.range n).map fun i=>T.getD i ud⟩:=by
  subst h
  refine Array.ext_getElem? (fun i=>?_)
  by_cases hi : i < T.size
  · simp [hi]
  · simp [hi]
theorem Agu (T : Array Value) (h : T.size = 121) : ∃ x : Nat -> Value,T = ⟨x 0 :: x 1 :: x 2 :: x 3 :: x 4 :: x 5 :: x 6 :: x 7 :: x 8 :: x 9 :: x 10 :: x 11 :: x 12 :: x 13 :: x 14 :: x 15 :: x 16 :: x 17 :: x 18 :: x 19 :: x 20 :: x 21 :: x 22 :: x 23 :: x 24 :: x 25 :: x 26 :: x 27 :: x 28 :: x 29 :: x 30 :: x 31 :: x 32 :: x 33 :: x 34 :: x 35 :: x 36 :: x 37 :: x 38 :: x 39 :: x 40 :: x 41 :: x 42 :: x 43 :: x 44 :: x 45 :: x 46 :: x 47 :: x 48 :: x 49 :: x 50 :: x 51 :: x 52 :: x 53 :: x 54 :: x 55 :: x 56 :: x 57 :: x 58 :: x 59 :: x 60 :: x 61 :: x 62 :: x 63 :: x 64 :: x 65 :: x 66 :: x 67 :: x 68 :: x 69 :: x 70 :: x 71 :: x 72 :: x 73 :: x 74 :: x 75 :: x 76 :: x 77 :: x 78 :: x 79 :: x 80 :: x 81 :: x 82 :: x 83 :: x 84 :: x 85 :: x 86 :: x 87 :: x 88 :: x 89 :: x 90 :: x 91 :: x 92 :: x 93 :: x 94 :: x 95 :: x 96 :: x 97 :: x 98 :: x 99 :: x 100 :: x 101 :: x 102 :: x 103 :: x 104 :: x 105 :: x 106 :: x 107 :: x 108 :: x 109 :: x 110 :: x 111 :: x 112 :: x 113 :: x 114 :: x 115 :: x 116 :: x 117 :: x 118 :: x 119 :: x 120 :: []⟩:=⟨fun i=>T.getD i ud,(Aj5 T 121 h).trans (by kernel_rfl)⟩
structure G27 (T : Array Value) (well : Bool) (g cap rb kb ai : Nat) : Prop where
  sz : T.size = 121
  t1 : T[1]? = some (.slice (some ⟨g,0,none⟩) 3 cap)
  t2 : T[2]? = some (.bool well)
  t5 : T[5]? = some (pq rb 0)
  t11 : T[11]? = some (.int .i64 (ai : Int))
  t12 : T[12]? = some (pq kb 0)
theorem Nu : ∀ {ss : List (Nat × Nat)} {k : Nat} {p : Nat × Nat} {j : Nat} {v : Value},ss[k]? = some p -> (Ba p)[j]? = some v -> (Dq ss)[k * 8 + j]? = some v
  | q :: ss,0,p,j,v,h,hv=>by
    simp only [List.getElem?_cons_zero,Option.some.injEq] at h
    subst h
    rw [Nat.zero_mul,Nat.zero_add]
    show (Ba q ++ Dq ss)[j]? = _
    rw [List.getElem?_append_left (List.getElem?_eq_some_iff.1 hv).1]
    exact hv
  | q :: ss,k + 1,p,j,v,h,hv=>by
    have ih:=Nu (ss:=ss) (k:=k) (p:=p) h hv
    show (Ba q ++ Dq ss)[_]? = _
    have hl : (Ba q).length = 8:=rfl
    rw [List.getElem?_append_right (by rw [hl]; omega),hl,show (k + 1) * 8 + j - 8 = k * 8 + j by omega]
    exact ih
theorem Aq6 {T : Array Value} {well lent : Bool} {g cap v : Nat} {gk : Int} {good : Bool} {st : ByteArray} {lv : SV} (hs : T.size = 121) (h0 : T[0]? = some (.agg (Dl good gk st lv))) (h1 : T[1]? = some (.slice (some ⟨g,0,none⟩) 3 cap)) (h2 : T[2]? = some (.bool well)) (h3 : T[3]? = some (.bool lent)) (h4 : T[4]? = some (.int .i64 (v : Int))) (hv : well = true -> v <= 50) (W : World) (Φ : Act -> World -> Prop)
    (hΦ : ∀ T' w' rb kb,G27 T' well g cap rb kb (if lent then 1 else 2) -> T'[13]? = some (.int .i64 ((if well then 50 - v else 50 : Nat) : Int)) -> T'[14]? = some (.int .i64 ((if well then 1 else 0 : Nat) : Int)) -> w'.heap[rb]? = ob (Dl good gk st lv) 34 -> w'.heap[kb]? = ob (wq (if well then 2 else 1)) 41 -> Below W.heap.size W w' -> Φ ⟨T',[]⟩ w') :
    (n27 0).wp TryQ.prog (fun e a w=>e = .normal /\ (n27 1).wp TryQ.prog (fun e a w=>e = .normal /\ (n27 2).wp TryQ.prog (fun e a w=>e = .normal /\ (n27 3).wp TryQ.prog (fun e a w=>e = .normal /\ (n27 4).wp TryQ.prog (fun e a w=>e = .normal /\ (n27 5).wp TryQ.prog (fun e a w=>e = .normal /\ (n27 6).wp TryQ.prog (fun e a w=>e = .normal /\ Φ a w) a w) a w) a w) a w) a w) a w) ⟨T,[]⟩ W:=by
  have hΦs : Shut _:=hΦ
  clear hΦ
  obtain ⟨x,rfl⟩:=Agu T hs
  have e0 : x 0 = _:=Option.some.inj h0
  have e1 : x 1 = _:=Option.some.inj h1
  have e2 : x 2 = _:=Option.some.inj h2
  have e3 : x 3 = _:=Option.some.inj h3
  have e4 : x 4 = _:=Option.some.inj h4
  clear h0 h1 h2 h3 h4 hs
  rw [e0,e1,e2,e3,e4]
  clear e0 e1 e2 e3 e4
  have hb0 : Below W.heap.size W (W.alloc (.cells (Dl good gk st lv) 34)):=ba
  have hr0:=Al W (.cells (Dl good gk st lv) 34)
  dsimp only [n27,hd27,Xf,Tryz.f27,Option.getD_some]
  unfold Dl
  cases lent <;> (
    (go_wp2_with fail)
    change Calls _ _ _ (W.alloc (.cells (Dl good gk st lv) 34)) _
    generalize W.alloc (.cells (Dl good gk st lv) 34) = w0 at hb0 hr0 ⊢
    refine (Kj 1 (by decide) _).mono ?_
    rintro e w1 ⟨rfl,hb1⟩
    have hbx : Below w1.heap.size w1 (w1.alloc (.cells (wq 1) 41)):=ba
    have hk2:=Al w1 (.cells (wq 1) 41)
    have hb2:=hb0.trans ((hb1.trans (hbx.mono hb1.size)).mono hb0.size)
    have hr2:=(hbx.block _ (Aa ((hb1.block _ (Aa hr0)).trans hr0))).trans ((hb1.block _ (Aa hr0)).trans hr0)
    cases well
    · (go_wp2_with fail)
      exact hΦs.out _ _ W.heap.size w1.heap.size ⟨rfl,rfl,rfl,rfl,rfl,rfl⟩ rfl rfl hr2 hk2 hb2
    · have hv:=hv rfl
      have i1 : IntKind.i64.wrap (50 - (v : Int)) = ((50 - v : Nat) : Int):=by rw [show 50 - (v : Int) = ((50 - v : Nat) : Int) by omega]; exact IntWalk.i64_in _ ⟨by omega,by omega⟩
      (go_wp2_with fail)
      have hkr : w1.heap.size ≠ W.heap.size:=by have:=Aa hr0; have:=hb1.size; omega
      have hkW : W.heap.size <= w1.heap.size:=Nat.le_trans hb0.size hb1.size
      change Calls _ _ _ (w1.alloc (.cells (wq 1) 41)) _
      generalize w1.alloc (.cells (wq 1) 41) = w2 at hb2 hr2 hk2 ⊢
      generalize w1.heap.size = kb at hk2 hkr hkW ⊢
      refine (Kj 2 (by decide) _).mono ?_
      rintro e w3 ⟨rfl,hb3⟩
      have hk3:=bk hb3 hk2
      have hr3:=bk hb3 hr2
      have c0:=bq hk3 0 rfl
      have c1:=bq hk3 1 rfl
      have c2:=bq hk3 2 rfl
      have c3:=bq hk3 3 rfl
      have z0:=Ai hk3 0
      have z1:=Ai hk3 1
      have z2:=Ai hk3 2
      have z3:=Ai hk3 3
      (go_wp2_with fail)
      exact hΦs.out _ _ W.heap.size kb ⟨rfl,rfl,rfl,rfl,rfl,rfl⟩ rfl rfl (Ae (Ae (Ae (Ae hr3 (Ne.symm hkr)) (Ne.symm hkr)) (Ne.symm hkr)) (Ne.symm hkr)) (Av (i:=3) (Av (i:=2) (Av (i:=1) (Av (i:=0) hk3)))) ((((hb2.trans (hb3.mono hb2.size)).setCell (p:=⟨kb,0,none⟩) hkW _).setCell (p:=⟨kb,1,none⟩) hkW _).setCell (p:=⟨kb,2,none⟩) hkW _ |>.setCell (p:=⟨kb,3,none⟩) hkW _))
theorem Aq5 {T : Array Value} {well : Bool} {g cap rb kb ai b2 N : Nat} {gk : Int} {good : Bool} {st : ByteArray} {lv : SV} {cur : Array Value} (hT : G27 T well g cap rb kb ai) (h13 : T[13]? = some (.int .i64 (b2 : Int))) (h14 : T[14]? = some (.int .i64 (N : Int))) (W : World) (hr : W.heap[rb]? = ob (Dl good gk st lv) 34) (hg : W.heap[g]? = ob cur 52) (hN : lv.n = N) (hb2 : b2 <= 50) (hc : ∀ i,i < 4 -> cur[9 + i]? = some (.int .u64 (lim b2 i)) /\ cur[17 + i]? = some (.int .u64 (lim (50 - b2) i))) (Φ : Act -> World -> Prop)
    (hΦ : ∀ T' w',G27 T' well g cap rb kb ai -> Below W.heap.size W w' -> Φ ⟨T',[]⟩ w') : (n27 7).wp TryQ.prog (fun e a w=>e = .normal /\ Φ a w) ⟨T,[]⟩ W:=by
  have hΦs : Shut _:=hΦ
  clear hΦ
  have hM2 : b2 < M:=Nat.lt_of_le_of_lt hb2 (by decide)
  have hM3 : 50 - b2 < M:=Nat.lt_of_le_of_lt (Nat.sub_le _ _) (by decide)
  have i1 : IntKind.i64.wrap (50 - (b2 : Int)) = ((50 - b2 : Nat) : Int):=by rw [show 50 - (b2 : Int) = ((50 - b2 : Nat) : Int) by omega]; exact IntWalk.i64_in _ ⟨by omega,by omega⟩
  have hB : Below W.heap.size W W.drew:=(Below.refl _ _).drew
  obtain ⟨x,rfl⟩:=Agu T hT.sz
  have e1 : x 1 = _:=Option.some.inj hT.t1
  have e2 : x 2 = _:=Option.some.inj hT.t2
  have e5 : x 5 = _:=Option.some.inj hT.t5
  have e11 : x 11 = _:=Option.some.inj hT.t11
  have e12 : x 12 = _:=Option.some.inj hT.t12
  have e13 : x 13 = _:=Option.some.inj h13
  have e14 : x 14 = _:=Option.some.inj h14
  clear hT h13 h14
  rw [e1,e2,e5,e11,e12,e13,e14]
  clear e1 e2 e5 e11 e12 e13 e14
  dsimp only [n27,hd27,Xf,Tryz.f27,Option.getD_some]
  (go_wp2_with fail)
  refine rq (fun V=>V.heap[rb]? = ob (Dl good gk st lv) 34 /\ V.heap[g]? = ob cur 52) ⟨hr,hg⟩ fun hH=>?_
  refine tx 0 25 (pq rb 3) hH ?_
  refine tv 1 26 (.slice lv.a lv.n lv.c) (fun _ hW=>bq (hW.1) 3 rfl) hH ?_
  refine tx 2 27 (.int .i64 (N : Int)) hH ?_
  refine tx 3 28 (.int .i64 (N : Int)) hH ?_
  refine tx 4 29 (.bool false) hH ?_
  refine tx 5 30 (.bool false) hH ?_
  refine tx 6 31 (.slice (some ⟨g,0,none⟩) 3 cap) hH ?_
  refine tx 7 32 (pq g 8) hH ?_
  refine tx 8 33 (pq g 9) hH ?_
  refine tv 9 34 (.agg (wq b2)) (fun _ hW=>aq (br hW.2 9 (hc 0 (by omega)).1) (aq (br hW.2 10 (hc 1 (by omega)).1) (aq (br hW.2 11 (hc 2 (by omega)).1) (br hW.2 12 (hc 3 (by omega)).1)))) hH ?_
  refine tx 10 35 (.int .i64 (b2 : Int)) hH ?_
  refine r1 11 fun K hK=>?_
  go_simp
  refine (Kj b2 (by omega) _).mono ?_
  rintro e V1 ⟨rfl,hb⟩
  replace hB:=hB.trans (hb.mono hB.size)
  go_wp2_with fail
  refine hK.out _ _ ⟨(hb.block _ (Aa hH.1)).trans hH.1,(hb.block _ (Aa hH.2)).trans hH.2⟩ fun hH=>?_
  clear hK K
  refine td (i:=12) (d:=some 37) (v:=.bool false) rfl rfl (fun V hW=>?_) hH ?_
  ·have heq:=Je b2 hM2
   unfold wd at heq
   clear hW hH
   go_simp
  refine tx 13 38 (.bool false) hH ?_
  refine tx 14 39 (.bool false) hH ?_
  refine tx 15 40 (.slice (some ⟨g,0,none⟩) 3 cap) hH ?_
  refine tx 16 41 (pq g 16) hH ?_
  refine tx 17 42 (pq g 17) hH ?_
  refine tv 18 43 (.agg (wq (50 - b2))) (fun _ hW=>aq (br hW.2 17 (hc 0 (by omega)).2) (aq (br hW.2 18 (hc 1 (by omega)).2) (aq (br hW.2 19 (hc 2 (by omega)).2) (br hW.2 20 (hc 3 (by omega)).2)))) hH ?_
  refine tx 19 44 (.int .i64 (b2 : Int)) hH ?_
  refine tx 20 45 (.int .i64 ((50 - b2 : Nat) : Int)) hH ?_
  refine r1 21 fun K hK=>?_
  go_simp
  refine (Kj (50 - b2) (by omega) _).mono ?_
  rintro e V2 ⟨rfl,hb⟩
  replace hB:=hB.trans (hb.mono hB.size)
  go_wp2_with fail
  refine hK.out _ _ ⟨(hb.block _ (Aa hH.1)).trans hH.1,(hb.block _ (Aa hH.2)).trans hH.2⟩ fun hH=>?_
  clear hK K
  refine td (i:=22) (d:=some 47) (v:=.bool false) rfl rfl (fun V hW=>?_) hH ?_
  ·have heq:=Je (50 - b2) hM3
   unfold wd at heq
   clear hW hH
   go_simp
  refine tx 23 48 (.bool false) hH ?_
  refine dn ?_
  go_wp2_with fail
  exact hΦs.out _ _ ⟨rfl,rfl,rfl,rfl,rfl,rfl⟩ hB
theorem Aq4 {T : Array Value} {well : Bool} {g cap rb kb ai kk : Nat} {cur : Array Value} {s2 : SV} {ss : List (Nat × Nat)} (hT : G27 T well g cap rb kb ai) (W : World) (hg : W.heap[g]? = ob cur 52) (h15c : cur[15]? = some (.slice s2.a s2.n s2.c)) (hs : SlOk W s2 ss) (hm : ∀ p ∈ ss,p.1 < M /\ p.2 < M) (hlen : ss.length < 1000000) (hkb : W.heap[kb]? = ob (wq kk) 41) (hkM : kk < M) (Φ : Act -> World -> Prop)
    (hΦ : ∀ T' w',G27 T' well g cap rb kb ai -> T'[15]? = some (.bool (ss.any fun p=>decide (p.1 = 5) && decide (p.2 = kk))) -> Below W.heap.size W w' -> Φ ⟨T',[]⟩ w') : (n27 8).wp TryQ.prog (fun e a w=>e = .normal /\ (n27 9).wp TryQ.prog (fun e a w=>e = .normal /\ Φ a w) a w) ⟨T,[]⟩ W:=by
  have hΦs : Shut _:=hΦ
  clear hΦ
  obtain ⟨x,rfl⟩:=Agu T hT.sz
  have e1 : x 1 = _:=Option.some.inj hT.t1
  have e2 : x 2 = _:=Option.some.inj hT.t2
  have e5 : x 5 = _:=Option.some.inj hT.t5
  have e11 : x 11 = _:=Option.some.inj hT.t11
  have e12 : x 12 = _:=Option.some.inj hT.t12
  clear hT
  rw [e1,e2,e5,e11,e12]
  clear e1 e2 e5 e11 e12
  dsimp only [n27,hd27,Xf,Tryz.f27,Option.getD_some]
  (go_wp2_with fail)
  go_loopw [15,16] (fun u i wr=>∃ k : Nat,i = .int .i64 (k : Int) /\ k <= ss.length /\ u = .bool ((ss.take k).any fun p=>decide (p.1 = 5) && decide (p.2 = kk)) /\ Below W.heap.size W wr) (fun _ i _=>ss.length - (Go.RowKit.intOf i).toNat)
  case atStart=>exact ⟨0,rfl,by omega,by simp,Below.refl _ _⟩
  case round =>
    obtain ⟨k,rfl,hk,rfl,hb⟩:=hrel
    have hgr:=bk hb hg
    have c15 : wr.cell? ⟨g,15,none⟩ = some (.slice s2.a s2.n s2.c):=(Ad hgr 15).trans h15c
    have hn:=hs.1
    by_cases hlt : k < ss.length
    · have hlt' : (k : Int) < (s2.n : Int):=by omega
      obtain ⟨b,bcap,bcur,rfl,hbr0,hbc,hpc0⟩:=hs.2 (fun e=>by rw [e] at hlt; simp at hlt)
      obtain ⟨p,hp⟩ : ∃ p,ss[k]? = some p:=⟨_,List.getElem?_eq_getElem hlt⟩
      have hpm:=hm p (List.mem_of_getElem? hp)
      have hbr:=bk hb hbr0
      have hpc : ∀ j v,(Ba p)[j]? = some v -> bcur[k * 8 + j]? = some v:=fun j v hv=>hpc0 _ _ (Nu hp hv)
      have h15:=h15c
      have hkr:=bk hb hkb
      have htk : ((ss.take (k + 1)).any fun p=>decide (p.1 = 5) && decide (p.2 = kk)) = (((ss.take k).any fun p=>decide (p.1 = 5) && decide (p.2 = kk)) || (decide (p.1 = 5) && decide (p.2 = kk))):=by rw [List.take_add_one,hp]; simp
      have hkw : IntKind.i64.wrap ((k : Int) + 1) = (k : Int) + 1:=IntWalk.i64_in _ ⟨by omega,by omega⟩
      cases hu : (ss.take k).any fun p=>decide (p.1 = 5) && decide (p.2 = kk)
      · rw [hu,Bool.false_or] at htk
        (go_wp2_with fail)
        clear c15
        replace hb : Below W.heap.size W wr.drew:=hb.drew
        refine rq (fun V=>V.heap[g]? = ob cur 52 /\ V.heap[b]? = ob bcur 72 /\ V.heap[kb]? = ob (wq kk) 41) ⟨hgr,hbr,hkr⟩ fun hH=>?_
        refine tx 0 58 (.bool false) hH ?_
        refine tx 1 59 (.bool false) hH ?_
        refine tx 2 60 (.slice (some ⟨g,0,none⟩) 3 cap) hH ?_
        refine tx 3 61 (pq g 8) hH ?_
        refine tx 4 62 (pq g 15) hH ?_
        refine tv 5 63 (.slice (some ⟨b,0,none⟩) ss.length bcap) (fun _ hW=>br hW.1 15 h15) hH ?_
        refine tx 6 64 (.int .i64 (k : Int)) hH ?_
        refine tx 7 65 (pq b (k * 8)) hH ?_
        refine td (i:=8) (d:=some 66) (v:=.agg #[.int .u64 (lim p.1 0),.int .u64 (lim p.1 1),.int .u64 (lim p.1 2),.int .u64 (lim p.1 3),.int .u64 (lim p.2 0),.int .u64 (lim p.2 1),.int .u64 (lim p.2 2),.int .u64 (lim p.2 3)]) rfl rfl (fun V hW=>?_) hH ?_
        ·have k0:=(Ad (hW.2.1) (k * 8 + 0)).trans (hpc 0 _ rfl)
         have k1:=(Ad (hW.2.1) (k * 8 + 1)).trans (hpc 1 _ rfl)
         have k2:=(Ad (hW.2.1) (k * 8 + 2)).trans (hpc 2 _ rfl)
         have k3:=(Ad (hW.2.1) (k * 8 + 3)).trans (hpc 3 _ rfl)
         have k4:=(Ad (hW.2.1) (k * 8 + 4)).trans (hpc 4 _ rfl)
         have k5:=(Ad (hW.2.1) (k * 8 + 5)).trans (hpc 5 _ rfl)
         have k6:=(Ad (hW.2.1) (k * 8 + 6)).trans (hpc 6 _ rfl)
         have k7:=(Ad (hW.2.1) (k * 8 + 7)).trans (hpc 7 _ rfl)
         simp only [Nat.add_zero] at k0
         clear hW hH
         go_simp
        refine tv 10 68 (.agg (wq kk)) (fun _ hW=>aq (bq (hW.2.2) 0 rfl) (aq (bq (hW.2.2) 1 rfl) (aq (bq (hW.2.2) 2 rfl) (bq (hW.2.2) 3 rfl)))) hH ?_
        refine r1 9 fun K hK=>?_
        go_simp
        refine (Kj 5 (by decide) _).mono ?_
        rintro e V1 ⟨rfl,hb9⟩
        replace hb:=hb.trans (hb9.mono hb.size)
        go_wp2_with fail
        refine hK.out _ _ ⟨(hb9.block _ (Aa hH.1)).trans hH.1,(hb9.block _ (Aa hH.2.1)).trans hH.2.1,(hb9.block _ (Aa hH.2.2)).trans hH.2.2⟩ fun hH=>?_
        clear hK K
        refine tx 11 69 (.agg #[.int .u64 (lim 5 0),.int .u64 (lim 5 1),.int .u64 (lim 5 2),.int .u64 (lim 5 3),.int .u64 (lim kk 0),.int .u64 (lim kk 1),.int .u64 (lim kk 2),.int .u64 (lim kk 3)]) hH ?_
        refine td (i:=12) (d:=some 70) (v:=.bool (decide (p.1 = 5) && decide (p.2 = kk))) rfl rfl (fun V hW=>?_) hH ?_
        ·have heq:=Xw p (5,kk) hpm ⟨by show 5 < M; decide,hkM⟩
         unfold Ba at heq
         clear hW hH
         go_simp
        refine tx 13 71 (.bool (decide (p.1 = 5) && decide (p.2 = kk))) hH ?_
        refine r1 14 fun K hK=>?_
        go_simp
        refine hK.out _ _ hH fun hH=>?_
        clear hK K
        refine dn ?_
        (go_wp2_with fail)
        go_roundw
        case rel=>exact ⟨k + 1,by go_num,by omega,by rw [htk],hb⟩
        case measure=>simp [Go.RowKit.intOf]; omega
      · rw [hu,Bool.true_or] at htk
        (go_wp2_with fail)
        clear c15
        replace hb : Below W.heap.size W wr.drew:=hb.drew
        refine rq (fun V=>True) trivial fun hH=>?_
        refine tx 0 58 (.bool true) hH ?_
        refine tx 1 59 (.bool true) hH ?_
        refine tu (i:=2) (d:=some 60) rfl rfl hH ?_
        refine tu (i:=3) (d:=some 61) rfl rfl hH ?_
        refine tu (i:=4) (d:=some 62) rfl rfl hH ?_
        refine tu (i:=5) (d:=some 63) rfl rfl hH ?_
        refine tu (i:=6) (d:=some 64) rfl rfl hH ?_
        refine tu (i:=7) (d:=some 65) rfl rfl hH ?_
        refine tu (i:=8) (d:=some 66) rfl rfl hH ?_
        refine tu (i:=9) (d:=some 67) rfl rfl hH ?_
        refine tu (i:=10) (d:=some 68) rfl rfl hH ?_
        refine tu (i:=11) (d:=some 69) rfl rfl hH ?_
        refine tu (i:=12) (d:=some 70) rfl rfl hH ?_
        refine tx 13 71 (.bool true) hH ?_
        refine r1 14 fun K hK=>?_
        go_simp
        refine hK.out _ _ trivial fun hH=>?_
        clear hK K
        refine dn ?_
        (go_wp2_with fail)
        go_roundw
        case rel=>exact ⟨k + 1,by go_num,by omega,by rw [htk],hb⟩
        case measure=>simp [Go.RowKit.intOf]; omega
    · have hk' : k = ss.length:=by omega
      have hge : ¬ (k : Int) < (s2.n : Int):=by omega
      (go_wp2_with fail)
      exact hΦs.out _ _ ⟨rfl,rfl,rfl,rfl,rfl,rfl⟩ rfl hb
theorem Aq3 {T : Array Value} {well : Bool} {u0 : Bool} {g cap rb kb ai : Nat} {cur : Array Value} {s2 : SV} {ss : List (Nat × Nat)} (hT : G27 T well g cap rb kb ai) (h15 : T[15]? = some (.bool u0)) (W : World) (hg : W.heap[g]? = ob cur 52) (h15c : cur[(ai * 8 + 7)]? = some (.slice s2.a s2.n s2.c)) (hs : SlOk W s2 ss) (hai : ai = 1 \/ ai = 2) (hm : ∀ p ∈ ss,p.1 < M /\ p.2 < M) (hlen : ss.length < 1000000) (Φ : Act -> World -> Prop)
    (hΦ : ∀ T' w',G27 T' well g cap rb kb ai -> T'[15]? = some (.bool u0) -> T'[17]? = some (.bool (ss.any fun p=>decide (p.1 = 1) && decide (p.2 = 9))) -> Below W.heap.size W w' -> Φ ⟨T',[]⟩ w') : (n27 10).wp TryQ.prog (fun e a w=>e = .normal /\ (n27 11).wp TryQ.prog (fun e a w=>e = .normal /\ Φ a w) a w) ⟨T,[]⟩ W:=by
  have hΦs : Shut _:=hΦ
  clear hΦ
  have hai2 : (ai : Int) < 3:=by omega
  have hai3 : ai < 3:=by omega
  clear hai
  obtain ⟨x,rfl⟩:=Agu T hT.sz
  have e1 : x 1 = _:=Option.some.inj hT.t1
  have e2 : x 2 = _:=Option.some.inj hT.t2
  have e5 : x 5 = _:=Option.some.inj hT.t5
  have e11 : x 11 = _:=Option.some.inj hT.t11
  have e12 : x 12 = _:=Option.some.inj hT.t12
  have e15 : x 15 = _:=Option.some.inj h15
  clear hT h15
  rw [e1,e2,e5,e11,e12,e15]
  clear e1 e2 e5 e11 e12 e15
  dsimp only [n27,hd27,Xf,Tryz.f27,Option.getD_some]
  (go_wp2_with fail)
  go_loopw [17,18] (fun u i wr=>∃ k : Nat,i = .int .i64 (k : Int) /\ k <= ss.length /\ u = .bool ((ss.take k).any fun p=>decide (p.1 = 1) && decide (p.2 = 9)) /\ Below W.heap.size W wr) (fun _ i _=>ss.length - (Go.RowKit.intOf i).toNat)
  case atStart=>exact ⟨0,rfl,by omega,by simp,Below.refl _ _⟩
  case round =>
    obtain ⟨k,rfl,hk,rfl,hb⟩:=hrel
    have hgr:=bk hb hg
    have c15 : wr.cell? ⟨g,(ai * 8 + 7),none⟩ = some (.slice s2.a s2.n s2.c):=(Ad hgr (ai * 8 + 7)).trans h15c
    have hn:=hs.1
    by_cases hlt : k < ss.length
    · have hlt' : (k : Int) < (s2.n : Int):=by omega
      obtain ⟨b,bcap,bcur,rfl,hbr0,hbc,hpc0⟩:=hs.2 (fun e=>by rw [e] at hlt; simp at hlt)
      obtain ⟨p,hp⟩ : ∃ p,ss[k]? = some p:=⟨_,List.getElem?_eq_getElem hlt⟩
      have hpm:=hm p (List.mem_of_getElem? hp)
      have hbr:=bk hb hbr0
      have hpc : ∀ j v,(Ba p)[j]? = some v -> bcur[k * 8 + j]? = some v:=fun j v hv=>hpc0 _ _ (Nu hp hv)
      have h15:=h15c
      have htk : ((ss.take (k + 1)).any fun p=>decide (p.1 = 1) && decide (p.2 = 9)) = (((ss.take k).any fun p=>decide (p.1 = 1) && decide (p.2 = 9)) || (decide (p.1 = 1) && decide (p.2 = 9))):=by rw [List.take_add_one,hp]; simp
      have hkw : IntKind.i64.wrap ((k : Int) + 1) = (k : Int) + 1:=IntWalk.i64_in _ ⟨by omega,by omega⟩
      cases hu : (ss.take k).any fun p=>decide (p.1 = 1) && decide (p.2 = 9)
      · rw [hu,Bool.false_or] at htk
        (go_wp2_with fail)
        clear c15
        replace hb : Below W.heap.size W wr.drew:=hb.drew
        refine rq (fun V=>V.heap[g]? = ob cur 52 /\ V.heap[b]? = ob bcur 72) ⟨hgr,hbr⟩ fun hH=>?_
        refine tx 0 82 (.bool false) hH ?_
        refine tx 1 83 (.bool false) hH ?_
        refine tx 2 84 (.slice (some ⟨g,0,none⟩) 3 cap) hH ?_
        refine tx 3 85 (.int .i64 (ai : Int)) hH ?_
        refine tx 4 86 (pq g (ai * 8)) hH ?_
        refine tx 5 87 (pq g (ai * 8 + 7)) hH ?_
        refine tv 6 88 (.slice (some ⟨b,0,none⟩) ss.length bcap) (fun _ hW=>br hW.1 (ai * 8 + 7) h15) hH ?_
        refine tx 7 89 (.int .i64 (k : Int)) hH ?_
        refine tx 8 90 (pq b (k * 8)) hH ?_
        refine td (i:=9) (d:=some 91) (v:=.agg #[.int .u64 (lim p.1 0),.int .u64 (lim p.1 1),.int .u64 (lim p.1 2),.int .u64 (lim p.1 3),.int .u64 (lim p.2 0),.int .u64 (lim p.2 1),.int .u64 (lim p.2 2),.int .u64 (lim p.2 3)]) rfl rfl (fun V hW=>?_) hH ?_
        ·have k0:=(Ad (hW.2) (k * 8 + 0)).trans (hpc 0 _ rfl)
         have k1:=(Ad (hW.2) (k * 8 + 1)).trans (hpc 1 _ rfl)
         have k2:=(Ad (hW.2) (k * 8 + 2)).trans (hpc 2 _ rfl)
         have k3:=(Ad (hW.2) (k * 8 + 3)).trans (hpc 3 _ rfl)
         have k4:=(Ad (hW.2) (k * 8 + 4)).trans (hpc 4 _ rfl)
         have k5:=(Ad (hW.2) (k * 8 + 5)).trans (hpc 5 _ rfl)
         have k6:=(Ad (hW.2) (k * 8 + 6)).trans (hpc 6 _ rfl)
         have k7:=(Ad (hW.2) (k * 8 + 7)).trans (hpc 7 _ rfl)
         simp only [Nat.add_zero] at k0
         clear hW hH
         go_simp
        refine r1 10 fun K hK=>?_
        go_simp
        refine (Kj 1 (by decide) _).mono ?_
        rintro e V1 ⟨rfl,hb9⟩
        replace hb:=hb.trans (hb9.mono hb.size)
        go_wp2_with fail
        refine hK.out _ _ ⟨(hb9.block _ (Aa hH.1)).trans hH.1,(hb9.block _ (Aa hH.2)).trans hH.2⟩ fun hH=>?_
        clear hK K
        refine r1 11 fun K hK=>?_
        go_simp
        refine (Kj 9 (by decide) _).mono ?_
        rintro e V2 ⟨rfl,hb9⟩
        replace hb:=hb.trans (hb9.mono hb.size)
        go_wp2_with fail
        refine hK.out _ _ ⟨(hb9.block _ (Aa hH.1)).trans hH.1,(hb9.block _ (Aa hH.2)).trans hH.2⟩ fun hH=>?_
        clear hK K
        refine tx 12 94 (.agg #[.int .u64 (lim 1 0),.int .u64 (lim 1 1),.int .u64 (lim 1 2),.int .u64 (lim 1 3),.int .u64 (lim 9 0),.int .u64 (lim 9 1),.int .u64 (lim 9 2),.int .u64 (lim 9 3)]) hH ?_
        refine td (i:=13) (d:=some 95) (v:=.bool (decide (p.1 = 1) && decide (p.2 = 9))) rfl rfl (fun V hW=>?_) hH ?_
        ·have heq:=Xw p (1,9) hpm ⟨by decide,by decide⟩
         unfold Ba at heq
         clear hW hH
         go_simp
        refine tx 14 96 (.bool (decide (p.1 = 1) && decide (p.2 = 9))) hH ?_
        refine r1 15 fun K hK=>?_
        go_simp
        refine hK.out _ _ hH fun hH=>?_
        clear hK K
        refine dn ?_
        (go_wp2_with fail)
        go_roundw
        case rel=>exact ⟨k + 1,by go_num,by omega,by rw [htk],hb⟩
        case measure=>simp [Go.RowKit.intOf]; omega
      · rw [hu,Bool.true_or] at htk
        (go_wp2_with fail)
        clear c15
        replace hb : Below W.heap.size W wr.drew:=hb.drew
        refine rq (fun V=>True) trivial fun hH=>?_
        refine tx 0 82 (.bool true) hH ?_
        refine tx 1 83 (.bool true) hH ?_
        refine tu (i:=2) (d:=some 84) rfl rfl hH ?_
        refine tu (i:=3) (d:=some 85) rfl rfl hH ?_
        refine tu (i:=4) (d:=some 86) rfl rfl hH ?_
        refine tu (i:=5) (d:=some 87) rfl rfl hH ?_
        refine tu (i:=6) (d:=some 88) rfl rfl hH ?_
        refine tu (i:=7) (d:=some 89) rfl rfl hH ?_
        refine tu (i:=8) (d:=some 90) rfl rfl hH ?_
        refine tu (i:=9) (d:=some 91) rfl rfl hH ?_
        refine tu (i:=10) (d:=some 92) rfl rfl hH ?_
        refine tu (i:=11) (d:=some 93) rfl rfl hH ?_
        refine tu (i:=12) (d:=some 94) rfl rfl hH ?_
        refine tu (i:=13) (d:=some 95) rfl rfl hH ?_
        refine tx 14 96 (.bool true) hH ?_
        refine r1 15 fun K hK=>?_
        go_simp
        refine hK.out _ _ trivial fun hH=>?_
        clear hK K
        refine dn ?_
        (go_wp2_with fail)
        go_roundw
        case rel=>exact ⟨k + 1,by go_num,by omega,by rw [htk],hb⟩
        case measure=>simp [Go.RowKit.intOf]; omega
    · have hk' : k = ss.length:=by omega
      have hge : ¬ (k : Int) < (s2.n : Int):=by omega
      (go_wp2_with fail)
      exact hΦs.out _ _ ⟨rfl,rfl,rfl,rfl,rfl,rfl⟩ rfl rfl hb
theorem eq95 (ia : Int) (h : ia = 2 \/ ia = 3) (w : World) : (Op.equalIn 10000 95 (.agg (Ej ia 7).toArray) (.agg (Ej ia 7).toArray)).run TryQ.prog w = .ok true w:=by
  rcases h with rfl | rfl <;> kernel_rfl
theorem Aq2 {T : Array Value} {well : Bool} {g cap rb kb ai N : Nat} {gk : Int} {good : Bool} {st : ByteArray} {lv : SV} {cur : Array Value} {B : Nat} {xs : List Value} {ia : Int} (hia : ia = 2 \/ ia = 3) (hT : G27 T well g cap rb kb ai) (h15 : T[15]? = some (.bool true)) (h17 : T[17]? = some (.bool well)) (W : World) (hr : W.heap[rb]? = ob (Dl good gk st lv) 34) (hg : W.heap[g]? = ob cur 52) (hai : ai = 1 \/ ai = 2) (hid : cur[ai * 8]? = some (.int .i64 ia)) (hlv : LgAt B lv N xs W) (hN : well = true -> N = 1 /\ xs = Ej ia 7) (Φ : Act -> World -> Prop)
    (hΦ : ∀ T' w',T'.size = 121 -> T'[10]? = some (.bool true) -> Below W.heap.size W w' -> Φ ⟨T',[]⟩ w') : (n27 12).wp TryQ.prog (fun e a w=>e = .normal /\ Φ a w) ⟨T,[]⟩ W:=by
  have hΦs : Shut _:=hΦ
  clear hΦ
  have hai2 : (ai : Int) < 3:=by omega
  have hai3 : ai < 3:=by omega
  have hB : Below W.heap.size W W.drew:=(Below.refl _ _).drew
  obtain ⟨x,rfl⟩:=Agu T hT.sz
  have e1 : x 1 = _:=Option.some.inj hT.t1
  have e2 : x 2 = _:=Option.some.inj hT.t2
  have e5 : x 5 = _:=Option.some.inj hT.t5
  have e11 : x 11 = _:=Option.some.inj hT.t11
  have e12 : x 12 = _:=Option.some.inj hT.t12
  have e15 : x 15 = _:=Option.some.inj h15
  have e17 : x 17 = _:=Option.some.inj h17
  clear hT h15 h17
  rw [e1,e2,e5,e11,e12,e15,e17]
  clear e1 e2 e5 e11 e12 e15 e17
  cases well
  · clear hN hlv
    dsimp only [n27,hd27,Xf,Tryz.f27,Option.getD_some]
    (go_wp2_with fail)
    refine rq (fun V=>True) trivial fun hH=>?_
    refine tx 0 97 (.bool true) hH ?_
    refine tx 1 98 (.bool true) hH ?_
    refine tx 2 99 (.bool false) hH ?_
    refine tx 3 100 (.bool false) hH ?_
    refine tx 4 101 (.bool true) hH ?_
    refine tx 5 102 (.bool true) hH ?_
    refine tx 6 103 (.bool true) hH ?_
    refine tx 7 104 (.bool false) hH ?_
    refine tx 8 105 (.bool true) hH ?_
    refine tx 9 106 (.bool true) hH ?_
    refine tu (i:=10) (d:=some 107) rfl rfl hH ?_
    refine tu (i:=11) (d:=some 108) rfl rfl hH ?_
    refine tu (i:=12) (d:=some 109) rfl rfl hH ?_
    refine tu (i:=13) (d:=some 110) rfl rfl hH ?_
    refine tu (i:=14) (d:=some 111) rfl rfl hH ?_
    refine tu (i:=15) (d:=some 112) rfl rfl hH ?_
    refine tu (i:=16) (d:=some 113) rfl rfl hH ?_
    refine tu (i:=17) (d:=some 114) rfl rfl hH ?_
    refine tu (i:=18) (d:=some 115) rfl rfl hH ?_
    refine tu (i:=19) (d:=some 116) rfl rfl hH ?_
    refine tu (i:=20) (d:=some 117) rfl rfl hH ?_
    refine tu (i:=21) (d:=some 118) rfl rfl hH ?_
    refine tx 22 119 (.bool true) hH ?_
    refine tx 23 120 (.bool true) hH ?_
    refine r1 24 fun K hK=>?_
    go_simp
    refine hK.out _ _ trivial fun hH=>?_
    clear hK K
    refine dn ?_
    go_wp2_with fail
    exact hΦs.out _ _ rfl rfl hB
  · obtain ⟨rfl,rfl⟩:=hN rfl
    obtain ⟨lb,lcap,lc,rfl,_,hl,hlc⟩:=hlv.2 (by decide)
    clear hN hlv
    dsimp only [n27,hd27,Xf,Tryz.f27,Option.getD_some]
    (go_wp2_with fail)
    refine rq (fun V=>V.heap[rb]? = ob (Dl good gk st ⟨some ⟨lb,0,none⟩,1,lcap⟩) 34 /\ V.heap[g]? = ob cur 52 /\ V.heap[lb]? = ob lc 95) ⟨hr,hg,hl⟩ fun hH=>?_
    refine tx 0 97 (.bool true) hH ?_
    refine tx 1 98 (.bool true) hH ?_
    refine tx 2 99 (.bool true) hH ?_
    refine tx 3 100 (.bool true) hH ?_
    refine tx 4 101 (.bool true) hH ?_
    refine tx 5 102 (.bool true) hH ?_
    refine tx 6 103 (.bool true) hH ?_
    refine tx 7 104 (.bool true) hH ?_
    refine tx 8 105 (.bool false) hH ?_
    refine tx 9 106 (.bool false) hH ?_
    refine tx 10 107 (pq rb 3) hH ?_
    refine tv 11 108 (.slice (some ⟨lb,0,none⟩) 1 lcap) (fun _ hW=>bq (hW.1) 3 rfl) hH ?_
    refine tx 12 109 (pq lb 0) hH ?_
    refine tv 13 110 (.agg #[.int .i64 ia,.int .u64 (lim 7 0),.int .u64 (lim 7 1),.int .u64 (lim 7 2),.int .u64 (lim 7 3),.string ⟨#[]⟩]) (fun _ hW=>aq (br hW.2.2 0 (hlc 0 _ rfl)) (aq (br hW.2.2 1 (hlc 1 _ rfl)) (aq (br hW.2.2 2 (hlc 2 _ rfl)) (aq (br hW.2.2 3 (hlc 3 _ rfl)) (aq (br hW.2.2 4 (hlc 4 _ rfl)) (br hW.2.2 5 (hlc 5 _ rfl))))))) hH ?_
    refine tx 14 111 (.slice (some ⟨g,0,none⟩) 3 cap) hH ?_
    refine tx 15 112 (.int .i64 (ai : Int)) hH ?_
    refine tx 16 113 (pq g (ai * 8)) hH ?_
    refine tx 17 114 (pq g (ai * 8)) hH ?_
    refine tv 18 115 (.int .i64 ia) (fun _ hW=>br hW.2.1 (ai * 8) hid) hH ?_
    refine r1 19 fun K hK=>?_
    go_simp
    refine (Kj 7 (by decide) _).mono ?_
    rintro e V1 ⟨rfl,hb⟩
    replace hB:=hB.trans (hb.mono hB.size)
    go_wp2_with fail
    refine hK.out _ _ ⟨(hb.block _ (Aa hH.1)).trans hH.1,(hb.block _ (Aa hH.2.1)).trans hH.2.1,(hb.block _ (Aa hH.2.2)).trans hH.2.2⟩ fun hH=>?_
    clear hK K
    refine tx 20 117 (.agg #[.int .i64 ia,.int .u64 (lim 7 0),.int .u64 (lim 7 1),.int .u64 (lim 7 2),.int .u64 (lim 7 3),.string ⟨#[]⟩]) hH ?_
    refine td (i:=21) (d:=some 118) (v:=.bool true) rfl rfl (fun V hW=>?_) hH ?_
    ·have heq:=eq95 ia hia
     unfold Ej at heq
     clear hW hH
     go_simp
    refine tx 22 119 (.bool true) hH ?_
    refine tx 23 120 (.bool true) hH ?_
    refine r1 24 fun K hK=>?_
    go_simp
    refine hK.out _ _ hH fun hH=>?_
    clear hK K
    refine dn ?_
    go_wp2_with fail
    exact hΦs.out _ _ rfl rfl hB
end
theorem Apu : Tryz.f27.body = some (chain [n27 0,n27 1,n27 2,n27 3,n27 4,n27 5,n27 6,n27 7,n27 8,n27 9,n27 10,n27 11,n27 12] .ret):=by kernel_rfl
theorem Xk {P : Program} {c : Code} {Q : Exit -> Act -> World -> Prop} : ∀ (l : List Code) (a : Act) (w : World),Da P (fun a w=>c.wp P Q a w) l a w -> (chain l c).wp P Q a w
 | [],_,_,h=>h
 | d :: l,_,_,h=>wp_seq (Code.wp_mono (fun e a w ⟨he,h⟩=>by subst he; exact Xk l a w h) h)
theorem Aim {W : World} {good : Bool} {gk : Int} {st : ByteArray} {lv s2 s3 : SV} {N g cap b2 B : Nat} {xs : List Value} {cur : Array Value} {ss2 ss3 : List (Nat × Nat)} (well lent : Bool) (v : Nat) (hv : well = true -> v <= 50) (hN : N = if well then 1 else 0) (hxs : well = true -> xs = Ej (if lent then 2 else 3) 7) (hlv : LgAt B lv N xs W) (hg : W.heap[g]? = ob cur 52) (hb2 : b2 = if well then 50 - v else 50) (hc : ∀ i,i < 4 -> cur[9 + i]? = some (.int .u64 (lim b2 i)) /\ cur[17 + i]? = some (.int .u64 (lim (50 - b2) i))) (hid : cur[8]? = some (.int .i64 2) /\ cur[16]? = some (.int .i64 3)) (hsl : cur[15]? = some (.slice s2.a s2.n s2.c) /\ cur[23]? = some (.slice s3.a s3.n s3.c)) (h2 : SlOk W s2 ss2) (h3 : SlOk W s3 ss3) (hm2 : ∀ p ∈ ss2,p.1 < M /\ p.2 < M) (hm3 : ∀ p ∈ ss3,p.1 < M /\ p.2 < M) (hl2 : ss2.length < 1000000) (hl3 : ss3.length < 1000000) (hin : (ss2.any fun p=>decide (p.1 = 5) && decide (p.2 = if well then 2 else 1)) = true) (hhas : ((if lent then ss2 else ss3).any fun p=>decide (p.1 = 1) && decide (p.2 = 9)) = well) :
  Calls TryQ.prog 27 #[.agg (Dl good gk st lv),.slice (some ⟨g,0,none⟩) 3 cap,.bool well,.bool lent,.int .i64 (v : Int)] W fun e w'=>e = .returned (.bool true) /\ Below W.heap.size W w':=by
 refine calls_of_wp TryQ.func27 Apu ?_
 refine Xk _ _ _ ?_
 rw [Tryz.ntmps27]
 have hgl:=Aa hg
 refine Aq6 (Φ:=fun a w=>Da TryQ.prog (fun a w=>Code.wp TryQ.prog Code.ret (bodyPost TryQ.prog Tryz.f27 fun e w'=>e = .returned (.bool true) /\ Below W.heap.size W w') a w) [n27 7,n27 8,n27 9,n27 10,n27 11,n27 12] a w) (well:=well) (lent:=lent) (g:=g) (cap:=cap) (v:=v) (gk:=gk) (good:=good) (st:=st) (lv:=lv) (by simp) (by simp) (by simp) (by simp) (by simp) (by simp) hv W (fun T1 w1 rb kb hT1 h13 h14 hr1 hk1 hB1=>?_)
 rw [<- hb2] at h13
 rw [<- hN] at h14
 have hb50 : b2 <= 50:=by rw [hb2]; split <;> omega
 have hg1:=(hB1.block _ hgl).trans hg
 refine Aq5 (Φ:=fun a w=>Da TryQ.prog (fun a w=>Code.wp TryQ.prog Code.ret (bodyPost TryQ.prog Tryz.f27 fun e w'=>e = .returned (.bool true) /\ Below W.heap.size W w') a w) [n27 8,n27 9,n27 10,n27 11,n27 12] a w) (cur:=cur) hT1 h13 h14 w1 hr1 hg1 hlv.1 hb50 hc (fun T2 w2 hT2 hB2=>?_)
 have hg2:=bk hB2 hg1
 have hr2:=bk hB2 hr1
 have hk2:=bk hB2 hk1
 have hW2:=hB1.trans (hB2.mono hB1.size)
 refine Aq4 (Φ:=fun a w=>Da TryQ.prog (fun a w=>Code.wp TryQ.prog Code.ret (bodyPost TryQ.prog Tryz.f27 fun e w'=>e = .returned (.bool true) /\ Below W.heap.size W w') a w) [n27 10,n27 11,n27 12] a w) (cur:=cur) (s2:=s2) (ss:=ss2) (kk:=if well then 2 else 1) hT2 w2 hg2 hsl.1 (h2.below hW2) hm2 hl2 hk2 (by cases well <;> decide) (fun T3 w3 hT3 h15 hB3=>?_)
 rw [hin] at h15
 have hg3:=bk hB3 hg2
 have hr3:=bk hB3 hr2
 have hW3:=hW2.trans (hB3.mono hW2.size)
 have hai : (if lent then 1 else 2 : Nat) = 1 \/ (if lent then 1 else 2 : Nat) = 2:=by cases lent <;> simp
 have hfin : ∀ {sA : SV} {ssA : List (Nat × Nat)} {ia : Int} {ai : Nat},G27 T3 well g cap rb kb ai -> (ai = 1 \/ ai = 2) -> (ia = 2 \/ ia = 3) -> cur[ai * 8 + 7]? = some (.slice sA.a sA.n sA.c) -> cur[ai * 8]? = some (.int .i64 ia) -> SlOk W sA ssA -> (∀ p ∈ ssA,p.1 < M /\ p.2 < M) -> ssA.length < 1000000 -> (ssA.any fun p=>decide (p.1 = 1) && decide (p.2 = 9)) = well -> (well = true -> xs = Ej ia 7) -> Da TryQ.prog (fun a w=>Code.wp TryQ.prog Code.ret (bodyPost TryQ.prog Tryz.f27 fun e w'=>e = .returned (.bool true) /\ Below W.heap.size W w') a w) [n27 10,n27 11,n27 12] ⟨T3,[]⟩ w3:=fun {sA ssA ia ai} hTA hA hia hcA hidA hsA hmA hlA hanyA hxA=>by
  refine Aq3 (Φ:=fun a w=>Da TryQ.prog (fun a w=>Code.wp TryQ.prog Code.ret (bodyPost TryQ.prog Tryz.f27 fun e w'=>e = .returned (.bool true) /\ Below W.heap.size W w') a w) [n27 12] a w) (cur:=cur) (s2:=sA) (ss:=ssA) hTA h15 w3 hg3 hcA (hsA.below hW3) hA hmA hlA (fun T4 w4 hT4 h15' h17 hB4=>?_)
  rw [hanyA] at h17
  have hg4:=bk hB4 hg3
  have hr4:=bk hB4 hr3
  have hW4:=hW3.trans (hB4.mono hW3.size)
  refine Aq2 (Φ:=fun a w=>Da TryQ.prog (fun a w=>Code.wp TryQ.prog Code.ret (bodyPost TryQ.prog Tryz.f27 fun e w'=>e = .returned (.bool true) /\ Below W.heap.size W w') a w) [] a w) (cur:=cur) (N:=N) (xs:=xs) (B:=B) hia hT4 h15' h17 w4 hr4 hg4 hA hidA (hlv.below hW4) (fun hw=>⟨by rw [hN,hw]; rfl,hxA hw⟩) (fun T5 w5 hs5 h10 hB5=>?_)
  refine wp_ret ?_
  simp [bodyPost,results,Tryz.results27,go_sem]
  exact ⟨by rw [h10]; rfl,hW4.trans (hB5.mono hW4.size)⟩
 cases lent
 ·exact hfin (sA:=s3) (ssA:=ss3) (ia:=3) (ai:=2) hT3 (.inr rfl) (.inr rfl) hsl.2 hid.2 h3 hm3 hl3 hhas hxs
 ·exact hfin (sA:=s2) (ssA:=ss2) (ia:=2) (ai:=1) hT3 (.inl rfl) (.inl rfl) hsl.1 hid.1 h2 hm2 hl2 hhas hxs
end Go.Mark
