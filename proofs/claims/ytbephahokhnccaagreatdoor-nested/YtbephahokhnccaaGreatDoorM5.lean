import Derived.Test.YtbephahokhnccaaGreatDoorXK12toL0
set_option linter.unusedSectionVars false
set_option maxRecDepth 100000
set_option maxHeartbeats 8000000
namespace Go.Mark
open Go.RowKit Go.Proofs Go.Lift
variable [BaseB]
theorem Ak8 (n : Nat) : (pu n).size = 4:=rfl
attribute [local go_sem] Ak8
noncomputable def Ko : Array Oper:=match Tryz.f8.body with
  | some (.seq _ (.seq (.region _ o _) _))=>o
  | _=>#[]
noncomputable def nc8 : Code:=match Tryz.f8.body with
  | some (.seq _ (.seq _ c))=>c
  | _=>.skip
def hd8 : Code -> Code
  | .seq c _=>c
  | c=>c
def tl8 : Nat -> Code -> Code
  | 0,c=>c
  | k + 1,.seq _ c=>tl8 k c
  | _,c=>c
noncomputable def ng8 (k : Nat) : Code:=hd8 (tl8 k nc8)
theorem Ahq {P : Program} {c : Code} {a : Act} {w : World} {Q : Exit -> Act -> World -> Prop} (R : Act -> World -> Prop) (h1 : c.wp P (fun e a' W=>e = .normal /\ R a' W) a w) (h2 : ∀ a' W,R a' W -> Q .normal a' W) : c.wp P Q a w :=
  Code.wp_mono (fun _ _ _ ⟨e1,hR⟩=>by subst e1; exact h2 _ _ hR) h1
theorem Ahb (c : Int) (n : Nat) (hn : 0 < n) (hn' : n < 100000) (hc : -9223372036854775808 <= c) (hc' : c <= 9223372036854775807) (W : World) :
    Calls TryQ.prog 13 #[.int .i64 c,.int .i64 (n : Int)] W fun e w'=>(∃ r : Nat,r < n /\ e = .returned (.int .i64 (r : Int))) /\ w' = W:=by
  have hnz : ¬ (n : Int) = 0:=by omega
  by_cases h0 : c < 0
  · have i1 : IntKind.i64.wrap (c + 1) = c + 1:=IntWalk.i64_in _ ⟨by omega,by omega⟩
    have i2 : IntKind.i64.wrap (-(c + 1)) = -(c + 1):=IntWalk.i64_in _ ⟨by omega,by omega⟩
    obtain ⟨m,hm⟩ : ∃ m : Nat,-(c + 1) = (m : Int):=⟨(-(c + 1)).toNat,by omega⟩
    rw [hm] at i2
    go_enter TryQ.func13,Tryz.ntmps13
    go_wp2_with fail
    go_ret
    exact ⟨⟨m % n,Nat.mod_lt _ hn,by simp⟩,rfl⟩
  · obtain ⟨m,rfl⟩ : ∃ m : Nat,c = (m : Int):=⟨c.toNat,by omega⟩
    go_enter TryQ.func13,Tryz.ntmps13
    go_wp2
    go_ret
    exact ⟨⟨m % n,Nat.mod_lt _ hn,by simp⟩,rfl⟩
def t8C (n z : Int) (bad lent : Bool) : Array Value:=#[.int .i64 n,.int .i64 z,.bool bad,.bool lent,ud,ud,ud,ud,.bool false,.bool true,ud,ud,ud,ud,ud,ud,ud,ud,ud,ud,ud,ud,.bool true,ud,ud,ud,ud,ud,ud,ud,ud,ud,ud,ud,ud,ud,ud,ud,ud,ud,ud,ud,ud,ud,ud,ud,ud,ud,ud,ud,ud,ud,ud,ud,ud,ud,ud,ud,ud,ud] ++ #[ud,ud,ud,ud,ud,ud,ud,ud,ud,ud,ud,ud,ud,ud,ud,ud,ud,ud,ud,ud,ud,ud,ud,ud,ud,ud,ud,ud,ud,ud,ud,ud,ud,ud,ud,ud,ud,ud,ud,ud,ud,ud,ud,ud,ud,ud,ud,ud,ud,ud,ud,ud,ud,ud,ud,ud,ud,ud,ud,ud] ++ #[ud,ud,ud,ud,ud,ud,ud,ud,ud,ud,ud,ud,ud,ud,ud,ud,ud,ud]
structure F8 (T : Array Value) (bad lent : Bool) (g v : Nat) : Prop where
  sz : T.size = 138
  t2 : T[2]? = some (.bool bad)
  t3 : T[3]? = some (.bool lent)
  t8 : T[8]? = some (.bool false)
  t9 : T[9]? = some (.bool true)
  t10 : T[10]? = some (.int .i64 (g : Int))
  t11 : T[11]? = some (.int .i64 (v : Int))
theorem Aml (T : Array Value) (n : Nat) (h : T.size = n) : T = ⟨(List.range n).map fun i=>T.getD i ud⟩:=by
  subst h
  refine Array.ext_getElem? (fun i=>?_)
  by_cases hi : i < T.size
  · simp [hi]
  · simp [hi]
theorem U5 (T : Array Value) (h : T.size = 138) : ∃ x : Nat -> Value,T = ⟨x 0 :: x 1 :: x 2 :: x 3 :: x 4 :: x 5 :: x 6 :: x 7 :: x 8 :: x 9 :: x 10 :: x 11 :: x 12 :: x 13 :: x 14 :: x 15 :: x 16 :: x 17 :: x 18 :: x 19 :: x 20 :: x 21 :: x 22 :: x 23 :: x 24 :: x 25 :: x 26 :: x 27 :: x 28 :: x 29 :: x 30 :: x 31 :: x 32 :: x 33 :: x 34 :: x 35 :: x 36 :: x 37 :: x 38 :: x 39 :: x 40 :: x 41 :: x 42 :: x 43 :: x 44 :: x 45 :: x 46 :: x 47 :: x 48 :: x 49 :: x 50 :: x 51 :: x 52 :: x 53 :: x 54 :: x 55 :: x 56 :: x 57 :: x 58 :: x 59 :: x 60 :: x 61 :: x 62 :: x 63 :: x 64 :: x 65 :: x 66 :: x 67 :: x 68 :: x 69 :: x 70 :: x 71 :: x 72 :: x 73 :: x 74 :: x 75 :: x 76 :: x 77 :: x 78 :: x 79 :: x 80 :: x 81 :: x 82 :: x 83 :: x 84 :: x 85 :: x 86 :: x 87 :: x 88 :: x 89 :: x 90 :: x 91 :: x 92 :: x 93 :: x 94 :: x 95 :: x 96 :: x 97 :: x 98 :: x 99 :: x 100 :: x 101 :: x 102 :: x 103 :: x 104 :: x 105 :: x 106 :: x 107 :: x 108 :: x 109 :: x 110 :: x 111 :: x 112 :: x 113 :: x 114 :: x 115 :: x 116 :: x 117 :: x 118 :: x 119 :: x 120 :: x 121 :: x 122 :: x 123 :: x 124 :: x 125 :: x 126 :: x 127 :: x 128 :: x 129 :: x 130 :: x 131 :: x 132 :: x 133 :: x 134 :: x 135 :: x 136 :: x 137 :: []⟩:=⟨fun i=>T.getD i ud,(Aml T 138 h).trans (by kernel_rfl)⟩
theorem str1 (n z : Int) (bad lent : Bool) (hn : -9223372036854775808 <= n) (hn' : n <= 9223372036854775807) (hz : -9223372036854775808 <= z) (hz' : z <= 9223372036854775807) (W : World) (Φ : Act -> World -> Prop) (hΦ : ∀ (g v : Nat) T,g < 60000 -> v < 100 -> F8 T bad lent g v -> T[12]? = some (.int .u8 (((if bad then 255 else 0 : UInt8).toNat : Nat) : Int)) -> Φ ⟨T,[]⟩ W) :
    (ng8 0).wp TryQ.prog (fun e a w=>e = .normal /\ (ng8 1).wp TryQ.prog (fun e a w=>e = .normal /\ (ng8 2).wp TryQ.prog (fun e a w=>e = .normal /\ (ng8 3).wp TryQ.prog (fun e a w=>e = .normal /\ Φ a w) a w) a w) a w) ⟨t8C n z bad lent,[]⟩ W:=by
  have hp1 : Calls TryQ.prog 13 #[.int .i64 n,.int .i64 60000] W _:=Ahb n 60000 (by decide) (by decide) hn hn' W
  have hp2 : Calls TryQ.prog 13 #[.int .i64 z,.int .i64 100] W _:=Ahb z 100 (by decide) (by decide) hz hz' W
  have hΦs : Shut _:=hΦ
  clear hΦ
  unfold t8C
  simp only [List.append_toArray,List.cons_append,List.nil_append]
  dsimp only [ng8,hd8,tl8,nc8,Tryz.f8]
  go_wp2_with fail
  refine hp1.mono ?_
  rintro e w1 ⟨⟨g,hg,rfl⟩,hw⟩
  subst hw
  clear hp1
  go_wp2_with fail
  refine hp2.mono ?_
  rintro e w2 ⟨⟨v,hv,rfl⟩,hw⟩
  subst hw
  clear hp2
  cases bad
  · go_wp2_with fail
    exact hΦs.out g v _ hg hv ⟨rfl,rfl,rfl,rfl,rfl,rfl,rfl⟩ rfl
  · go_wp2_with fail
    exact hΦs.out g v _ hg hv ⟨rfl,rfl,rfl,rfl,rfl,rfl,rfl⟩ rfl
theorem Il {P : Program} {md : Region.Mode} {ops : Array Oper} {Q : Exit -> Act -> World -> Prop} {S S' : World -> Prop} (hS : ∀ w,S' w -> S w) : ∀ (fuel : Nat) (listed : Array Bool) (a : Act) (w : World),wpAnyH P md ops Q S' fuel listed a w -> wpAnyH P md ops Q S fuel listed a w
  | 0,_,_,_,h=>h
  | fuel + 1,_,_,_,h=>⟨h.1,fun i hi=>wpOp_mono (fun a' w' h'=>⟨hS _ h'.1,Il hS fuel _ a' w' h'.2⟩) (h.2 i hi)⟩
theorem Td {V : World} {zz : Nat} {lb : UInt8} (hz : V.heap[zz]? = ob #[.int .u8 ((lb.toNat : Nat) : Int)] 5) : (convert 31 9 (.slice (some ⟨zz,0,none⟩) 1 1)).run TryQ.prog V = .ok (.string ⟨#[lb]⟩) V :=
  run_convert_bytes_back (P:=TryQ.prog) V 31 9 5 ⟨zz,0,none⟩ 1 [lb] ((Ab 31).trans Tryz.underlying31) ((Ab 5).trans Tryz.underlying5) ((Ab 9).trans Tryz.underlying9) (fun j hj=>by
    have hj0 : j = 0:=by simp at hj; omega
    subst hj0
    have:=Ad hz 0
    simpa [Addr.add] using this)
theorem bstr (lb : UInt8) : pu 9 ++ pu 1 ++ ⟨#[45]⟩ ++ pu 7 ++ pu 0 ++ pu 0 ++ ⟨#[50]⟩ ++ ⟨#[lb]⟩ = ⟨#[98,0,0,9,98,0,0,1,45,98,0,0,7,98,0,0,0,98,0,0,0,50,lb]⟩:=by
  apply ByteArray.ext
  simp [pu]
theorem str2 {T : Array Value} {bad lent : Bool} {g v : Nat} {lb : UInt8} (hT : F8 T bad lent g v) (h12 : T[12]? = some (.int .u8 ((lb.toNat : Nat) : Int))) (W : World) (Φ : Act -> World -> Prop) (hΦ : ∀ T' w',F8 T' bad lent g v -> T'[13]? = some (.string ⟨#[98,0,0,9,98,0,0,1,45,98,0,0,7,98,0,0,0,98,0,0,0,50,lb]⟩) -> Below W.heap.size W w' -> Φ ⟨T',[]⟩ w') :
    (ng8 4).wp TryQ.prog (fun e a w=>e = .normal /\ Φ a w) ⟨T,[]⟩ W:=by
  have hΦs : Shut _:=hΦ
  clear hΦ
  obtain ⟨x,rfl⟩:=U5 T hT.sz
  have e2 : x 2 = _:=Option.some.inj hT.t2
  have e3 : x 3 = _:=Option.some.inj hT.t3
  have e8 : x 8 = _:=Option.some.inj hT.t8
  have e9 : x 9 = _:=Option.some.inj hT.t9
  have e10 : x 10 = _:=Option.some.inj hT.t10
  have e11 : x 11 = _:=Option.some.inj hT.t11
  have e12 : x 12 = _:=Option.some.inj h12
  clear hT h12
  rw [e2,e3,e8,e9,e10,e11,e12]
  clear e2 e3 e8 e9 e10 e11 e12
  have hstr:=bstr lb
  refine Ahq (fun a' W'=>Below W.heap.size W W' /\ ∃ T',a' = ⟨T',[]⟩ /\ F8 T' bad lent g v /\ T'[13]? = some (.string ⟨#[98,0,0,9,98,0,0,1,45,98,0,0,7,98,0,0,0,98,0,0,0,50,lb]⟩)) ?_ ?_
  rotate_left
  · rintro a' W' ⟨hb,T',rfl,h1,h2⟩
    exact ⟨rfl,hΦs.out T' W' h1 h2 hb⟩
  clear hΦs
  dsimp only [ng8,hd8,tl8,nc8,Tryz.f8]
  go_wp2_with fail
  refine rq (fun V=>Below W.heap.size W V) (Below.refl _ _).drew fun hH=>?_
  generalize W.drew = V at hH ⊢
  refine tx 11 39 (.int .u8 ((lb.toNat : Nat) : Int)) hH ?_
  refine wpAnyH_ready (rs:=[0,12]) (by kernel_rfl) (by simp) (AllReadyH.cons rfl (fun K hK=>?_) (AllReadyH.cons rfl (fun K hK=>?_) AllReadyH.nil))
  rotate_left
  ·go_simp
   refine hK.out _ _ (hH.alloc hH.size _) fun hH=>?_
   clear hK K
   have hz:=Al V (.cells #[.int .u8 ((lb.toNat : Nat) : Int)] 5)
   generalize V.heap.size = zz at hz ⊢
   generalize V.alloc (.cells #[.int .u8 ((lb.toNat : Nat) : Int)] 5) = V at hH hz ⊢
   refine Il (S':=fun V=>Below W.heap.size W V /\ V.heap[zz]? = ob #[.int .u8 ((lb.toNat : Nat) : Int)] 5) (fun _ h=>h.1) _ _ _ _ ?_
   replace hH:=And.intro hH hz
   refine td (i:=13) (d:=some 41) (v:=.string ⟨#[lb]⟩) rfl rfl (fun V hW=>?_) hH ?_
   · have hcb:=Td hW.2
     clear hW hH
     go_simp
   refine r1 0 fun K hK=>?_
   go_simp
   refine (Cf 9 (by decide) _).mono ?_
   rintro e V ⟨rfl,hb⟩
   go_wp2_with fail
   refine hK.out _ _ ⟨hH.1.trans (hb.mono hH.1.size),(hb.block _ (Aa hH.2)).trans hH.2⟩ fun hH=>?_
   clear hK K
   refine r1 1 fun K hK=>?_
   go_simp
   refine (Cf 1 (by decide) _).mono ?_
   rintro e V ⟨rfl,hb⟩
   go_wp2_with fail
   refine hK.out _ _ ⟨hH.1.trans (hb.mono hH.1.size),(hb.block _ (Aa hH.2)).trans hH.2⟩ fun hH=>?_
   clear hK K
   refine tx 2 30 (.string (pu 9 ++ pu 1)) hH ?_
   refine tx 3 31 (.string (pu 9 ++ pu 1 ++ ⟨#[45]⟩)) hH ?_
   refine r1 4 fun K hK=>?_
   go_simp
   refine (Cf 7 (by decide) _).mono ?_
   rintro e V ⟨rfl,hb⟩
   go_wp2_with fail
   refine hK.out _ _ ⟨hH.1.trans (hb.mono hH.1.size),(hb.block _ (Aa hH.2)).trans hH.2⟩ fun hH=>?_
   clear hK K
   refine tx 5 33 (.string (pu 9 ++ pu 1 ++ ⟨#[45]⟩ ++ pu 7)) hH ?_
   refine r1 6 fun K hK=>?_
   go_simp
   refine (Cf 0 (by decide) _).mono ?_
   rintro e V ⟨rfl,hb⟩
   go_wp2_with fail
   refine hK.out _ _ ⟨hH.1.trans (hb.mono hH.1.size),(hb.block _ (Aa hH.2)).trans hH.2⟩ fun hH=>?_
   clear hK K
   refine tx 7 35 (.string (pu 9 ++ pu 1 ++ ⟨#[45]⟩ ++ pu 7 ++ pu 0)) hH ?_
   refine r1 8 fun K hK=>?_
   go_simp
   refine (Cf 0 (by decide) _).mono ?_
   rintro e V ⟨rfl,hb⟩
   go_wp2_with fail
   refine hK.out _ _ ⟨hH.1.trans (hb.mono hH.1.size),(hb.block _ (Aa hH.2)).trans hH.2⟩ fun hH=>?_
   clear hK K
   refine tx 9 37 (.string (pu 9 ++ pu 1 ++ ⟨#[45]⟩ ++ pu 7 ++ pu 0 ++ pu 0)) hH ?_
   refine tx 10 38 (.string (pu 9 ++ pu 1 ++ ⟨#[45]⟩ ++ pu 7 ++ pu 0 ++ pu 0 ++ ⟨#[50]⟩)) hH ?_
   refine tx 14 42 (.string ⟨#[98,0,0,9,98,0,0,1,45,98,0,0,7,98,0,0,0,98,0,0,0,50,lb]⟩) hH ?_
   refine r1 15 fun K hK=>?_
   go_simp
   refine hK.out _ _ hH fun hH=>?_
   refine dn ?_
   exact ⟨rfl,hH.1,_,rfl,⟨rfl,rfl,rfl,rfl,rfl,rfl,rfl⟩,rfl⟩
  go_simp
  refine (Cf 9 (by decide) _).mono ?_
  rintro e V ⟨rfl,hb⟩
  go_wp2_with fail
  refine hK.out _ _ (hH.trans (hb.mono hH.size)) fun hH=>?_
  clear hK K
  refine wpAnyH_ready (rs:=[1,12]) (by kernel_rfl) (by simp) (AllReadyH.cons rfl (fun K hK=>?_) (AllReadyH.cons rfl (fun K hK=>?_) AllReadyH.nil))
  rotate_left
  ·go_simp
   refine hK.out _ _ (hH.alloc hH.size _) fun hH=>?_
   clear hK K
   have hz:=Al V (.cells #[.int .u8 ((lb.toNat : Nat) : Int)] 5)
   generalize V.heap.size = zz at hz ⊢
   generalize V.alloc (.cells #[.int .u8 ((lb.toNat : Nat) : Int)] 5) = V at hH hz ⊢
   refine Il (S':=fun V=>Below W.heap.size W V /\ V.heap[zz]? = ob #[.int .u8 ((lb.toNat : Nat) : Int)] 5) (fun _ h=>h.1) _ _ _ _ ?_
   replace hH:=And.intro hH hz
   refine td (i:=13) (d:=some 41) (v:=.string ⟨#[lb]⟩) rfl rfl (fun V hW=>?_) hH ?_
   · have hcb:=Td hW.2
     clear hW hH
     go_simp
   refine r1 1 fun K hK=>?_
   go_simp
   refine (Cf 1 (by decide) _).mono ?_
   rintro e V ⟨rfl,hb⟩
   go_wp2_with fail
   refine hK.out _ _ ⟨hH.1.trans (hb.mono hH.1.size),(hb.block _ (Aa hH.2)).trans hH.2⟩ fun hH=>?_
   clear hK K
   refine tx 2 30 (.string (pu 9 ++ pu 1)) hH ?_
   refine tx 3 31 (.string (pu 9 ++ pu 1 ++ ⟨#[45]⟩)) hH ?_
   refine r1 4 fun K hK=>?_
   go_simp
   refine (Cf 7 (by decide) _).mono ?_
   rintro e V ⟨rfl,hb⟩
   go_wp2_with fail
   refine hK.out _ _ ⟨hH.1.trans (hb.mono hH.1.size),(hb.block _ (Aa hH.2)).trans hH.2⟩ fun hH=>?_
   clear hK K
   refine tx 5 33 (.string (pu 9 ++ pu 1 ++ ⟨#[45]⟩ ++ pu 7)) hH ?_
   refine r1 6 fun K hK=>?_
   go_simp
   refine (Cf 0 (by decide) _).mono ?_
   rintro e V ⟨rfl,hb⟩
   go_wp2_with fail
   refine hK.out _ _ ⟨hH.1.trans (hb.mono hH.1.size),(hb.block _ (Aa hH.2)).trans hH.2⟩ fun hH=>?_
   clear hK K
   refine tx 7 35 (.string (pu 9 ++ pu 1 ++ ⟨#[45]⟩ ++ pu 7 ++ pu 0)) hH ?_
   refine r1 8 fun K hK=>?_
   go_simp
   refine (Cf 0 (by decide) _).mono ?_
   rintro e V ⟨rfl,hb⟩
   go_wp2_with fail
   refine hK.out _ _ ⟨hH.1.trans (hb.mono hH.1.size),(hb.block _ (Aa hH.2)).trans hH.2⟩ fun hH=>?_
   clear hK K
   refine tx 9 37 (.string (pu 9 ++ pu 1 ++ ⟨#[45]⟩ ++ pu 7 ++ pu 0 ++ pu 0)) hH ?_
   refine tx 10 38 (.string (pu 9 ++ pu 1 ++ ⟨#[45]⟩ ++ pu 7 ++ pu 0 ++ pu 0 ++ ⟨#[50]⟩)) hH ?_
   refine tx 14 42 (.string ⟨#[98,0,0,9,98,0,0,1,45,98,0,0,7,98,0,0,0,98,0,0,0,50,lb]⟩) hH ?_
   refine r1 15 fun K hK=>?_
   go_simp
   refine hK.out _ _ hH fun hH=>?_
   refine dn ?_
   exact ⟨rfl,hH.1,_,rfl,⟨rfl,rfl,rfl,rfl,rfl,rfl,rfl⟩,rfl⟩
  go_simp
  refine (Cf 1 (by decide) _).mono ?_
  rintro e V ⟨rfl,hb⟩
  go_wp2_with fail
  refine hK.out _ _ (hH.trans (hb.mono hH.size)) fun hH=>?_
  clear hK K
  refine tx 2 30 (.string (pu 9 ++ pu 1)) hH ?_
  refine tx 3 31 (.string (pu 9 ++ pu 1 ++ ⟨#[45]⟩)) hH ?_
  refine wpAnyH_ready (rs:=[4,12]) (by kernel_rfl) (by simp) (AllReadyH.cons rfl (fun K hK=>?_) (AllReadyH.cons rfl (fun K hK=>?_) AllReadyH.nil))
  rotate_left
  ·go_simp
   refine hK.out _ _ (hH.alloc hH.size _) fun hH=>?_
   clear hK K
   have hz:=Al V (.cells #[.int .u8 ((lb.toNat : Nat) : Int)] 5)
   generalize V.heap.size = zz at hz ⊢
   generalize V.alloc (.cells #[.int .u8 ((lb.toNat : Nat) : Int)] 5) = V at hH hz ⊢
   refine Il (S':=fun V=>Below W.heap.size W V /\ V.heap[zz]? = ob #[.int .u8 ((lb.toNat : Nat) : Int)] 5) (fun _ h=>h.1) _ _ _ _ ?_
   replace hH:=And.intro hH hz
   refine td (i:=13) (d:=some 41) (v:=.string ⟨#[lb]⟩) rfl rfl (fun V hW=>?_) hH ?_
   · have hcb:=Td hW.2
     clear hW hH
     go_simp
   refine r1 4 fun K hK=>?_
   go_simp
   refine (Cf 7 (by decide) _).mono ?_
   rintro e V ⟨rfl,hb⟩
   go_wp2_with fail
   refine hK.out _ _ ⟨hH.1.trans (hb.mono hH.1.size),(hb.block _ (Aa hH.2)).trans hH.2⟩ fun hH=>?_
   clear hK K
   refine tx 5 33 (.string (pu 9 ++ pu 1 ++ ⟨#[45]⟩ ++ pu 7)) hH ?_
   refine r1 6 fun K hK=>?_
   go_simp
   refine (Cf 0 (by decide) _).mono ?_
   rintro e V ⟨rfl,hb⟩
   go_wp2_with fail
   refine hK.out _ _ ⟨hH.1.trans (hb.mono hH.1.size),(hb.block _ (Aa hH.2)).trans hH.2⟩ fun hH=>?_
   clear hK K
   refine tx 7 35 (.string (pu 9 ++ pu 1 ++ ⟨#[45]⟩ ++ pu 7 ++ pu 0)) hH ?_
   refine r1 8 fun K hK=>?_
   go_simp
   refine (Cf 0 (by decide) _).mono ?_
   rintro e V ⟨rfl,hb⟩
   go_wp2_with fail
   refine hK.out _ _ ⟨hH.1.trans (hb.mono hH.1.size),(hb.block _ (Aa hH.2)).trans hH.2⟩ fun hH=>?_
   clear hK K
   refine tx 9 37 (.string (pu 9 ++ pu 1 ++ ⟨#[45]⟩ ++ pu 7 ++ pu 0 ++ pu 0)) hH ?_
   refine tx 10 38 (.string (pu 9 ++ pu 1 ++ ⟨#[45]⟩ ++ pu 7 ++ pu 0 ++ pu 0 ++ ⟨#[50]⟩)) hH ?_
   refine tx 14 42 (.string ⟨#[98,0,0,9,98,0,0,1,45,98,0,0,7,98,0,0,0,98,0,0,0,50,lb]⟩) hH ?_
   refine r1 15 fun K hK=>?_
   go_simp
   refine hK.out _ _ hH fun hH=>?_
   refine dn ?_
   exact ⟨rfl,hH.1,_,rfl,⟨rfl,rfl,rfl,rfl,rfl,rfl,rfl⟩,rfl⟩
  go_simp
  refine (Cf 7 (by decide) _).mono ?_
  rintro e V ⟨rfl,hb⟩
  go_wp2_with fail
  refine hK.out _ _ (hH.trans (hb.mono hH.size)) fun hH=>?_
  clear hK K
  refine tx 5 33 (.string (pu 9 ++ pu 1 ++ ⟨#[45]⟩ ++ pu 7)) hH ?_
  refine wpAnyH_ready (rs:=[6,12]) (by kernel_rfl) (by simp) (AllReadyH.cons rfl (fun K hK=>?_) (AllReadyH.cons rfl (fun K hK=>?_) AllReadyH.nil))
  rotate_left
  ·go_simp
   refine hK.out _ _ (hH.alloc hH.size _) fun hH=>?_
   clear hK K
   have hz:=Al V (.cells #[.int .u8 ((lb.toNat : Nat) : Int)] 5)
   generalize V.heap.size = zz at hz ⊢
   generalize V.alloc (.cells #[.int .u8 ((lb.toNat : Nat) : Int)] 5) = V at hH hz ⊢
   refine Il (S':=fun V=>Below W.heap.size W V /\ V.heap[zz]? = ob #[.int .u8 ((lb.toNat : Nat) : Int)] 5) (fun _ h=>h.1) _ _ _ _ ?_
   replace hH:=And.intro hH hz
   refine td (i:=13) (d:=some 41) (v:=.string ⟨#[lb]⟩) rfl rfl (fun V hW=>?_) hH ?_
   · have hcb:=Td hW.2
     clear hW hH
     go_simp
   refine r1 6 fun K hK=>?_
   go_simp
   refine (Cf 0 (by decide) _).mono ?_
   rintro e V ⟨rfl,hb⟩
   go_wp2_with fail
   refine hK.out _ _ ⟨hH.1.trans (hb.mono hH.1.size),(hb.block _ (Aa hH.2)).trans hH.2⟩ fun hH=>?_
   clear hK K
   refine tx 7 35 (.string (pu 9 ++ pu 1 ++ ⟨#[45]⟩ ++ pu 7 ++ pu 0)) hH ?_
   refine r1 8 fun K hK=>?_
   go_simp
   refine (Cf 0 (by decide) _).mono ?_
   rintro e V ⟨rfl,hb⟩
   go_wp2_with fail
   refine hK.out _ _ ⟨hH.1.trans (hb.mono hH.1.size),(hb.block _ (Aa hH.2)).trans hH.2⟩ fun hH=>?_
   clear hK K
   refine tx 9 37 (.string (pu 9 ++ pu 1 ++ ⟨#[45]⟩ ++ pu 7 ++ pu 0 ++ pu 0)) hH ?_
   refine tx 10 38 (.string (pu 9 ++ pu 1 ++ ⟨#[45]⟩ ++ pu 7 ++ pu 0 ++ pu 0 ++ ⟨#[50]⟩)) hH ?_
   refine tx 14 42 (.string ⟨#[98,0,0,9,98,0,0,1,45,98,0,0,7,98,0,0,0,98,0,0,0,50,lb]⟩) hH ?_
   refine r1 15 fun K hK=>?_
   go_simp
   refine hK.out _ _ hH fun hH=>?_
   refine dn ?_
   exact ⟨rfl,hH.1,_,rfl,⟨rfl,rfl,rfl,rfl,rfl,rfl,rfl⟩,rfl⟩
  go_simp
  refine (Cf 0 (by decide) _).mono ?_
  rintro e V ⟨rfl,hb⟩
  go_wp2_with fail
  refine hK.out _ _ (hH.trans (hb.mono hH.size)) fun hH=>?_
  clear hK K
  refine tx 7 35 (.string (pu 9 ++ pu 1 ++ ⟨#[45]⟩ ++ pu 7 ++ pu 0)) hH ?_
  refine wpAnyH_ready (rs:=[8,12]) (by kernel_rfl) (by simp) (AllReadyH.cons rfl (fun K hK=>?_) (AllReadyH.cons rfl (fun K hK=>?_) AllReadyH.nil))
  rotate_left
  ·go_simp
   refine hK.out _ _ (hH.alloc hH.size _) fun hH=>?_
   clear hK K
   have hz:=Al V (.cells #[.int .u8 ((lb.toNat : Nat) : Int)] 5)
   generalize V.heap.size = zz at hz ⊢
   generalize V.alloc (.cells #[.int .u8 ((lb.toNat : Nat) : Int)] 5) = V at hH hz ⊢
   refine Il (S':=fun V=>Below W.heap.size W V /\ V.heap[zz]? = ob #[.int .u8 ((lb.toNat : Nat) : Int)] 5) (fun _ h=>h.1) _ _ _ _ ?_
   replace hH:=And.intro hH hz
   refine td (i:=13) (d:=some 41) (v:=.string ⟨#[lb]⟩) rfl rfl (fun V hW=>?_) hH ?_
   · have hcb:=Td hW.2
     clear hW hH
     go_simp
   refine r1 8 fun K hK=>?_
   go_simp
   refine (Cf 0 (by decide) _).mono ?_
   rintro e V ⟨rfl,hb⟩
   go_wp2_with fail
   refine hK.out _ _ ⟨hH.1.trans (hb.mono hH.1.size),(hb.block _ (Aa hH.2)).trans hH.2⟩ fun hH=>?_
   clear hK K
   refine tx 9 37 (.string (pu 9 ++ pu 1 ++ ⟨#[45]⟩ ++ pu 7 ++ pu 0 ++ pu 0)) hH ?_
   refine tx 10 38 (.string (pu 9 ++ pu 1 ++ ⟨#[45]⟩ ++ pu 7 ++ pu 0 ++ pu 0 ++ ⟨#[50]⟩)) hH ?_
   refine tx 14 42 (.string ⟨#[98,0,0,9,98,0,0,1,45,98,0,0,7,98,0,0,0,98,0,0,0,50,lb]⟩) hH ?_
   refine r1 15 fun K hK=>?_
   go_simp
   refine hK.out _ _ hH fun hH=>?_
   refine dn ?_
   exact ⟨rfl,hH.1,_,rfl,⟨rfl,rfl,rfl,rfl,rfl,rfl,rfl⟩,rfl⟩
  go_simp
  refine (Cf 0 (by decide) _).mono ?_
  rintro e V ⟨rfl,hb⟩
  go_wp2_with fail
  refine hK.out _ _ (hH.trans (hb.mono hH.size)) fun hH=>?_
  clear hK K
  refine tx 9 37 (.string (pu 9 ++ pu 1 ++ ⟨#[45]⟩ ++ pu 7 ++ pu 0 ++ pu 0)) hH ?_
  refine tx 10 38 (.string (pu 9 ++ pu 1 ++ ⟨#[45]⟩ ++ pu 7 ++ pu 0 ++ pu 0 ++ ⟨#[50]⟩)) hH ?_
  refine r1 12 fun K hK=>?_
  go_simp
  refine hK.out _ _ (hH.alloc hH.size _) fun hH=>?_
  clear hK K
  have hz:=Al V (.cells #[.int .u8 ((lb.toNat : Nat) : Int)] 5)
  generalize V.heap.size = zz at hz ⊢
  generalize V.alloc (.cells #[.int .u8 ((lb.toNat : Nat) : Int)] 5) = V at hH hz ⊢
  refine Il (S':=fun V=>Below W.heap.size W V /\ V.heap[zz]? = ob #[.int .u8 ((lb.toNat : Nat) : Int)] 5) (fun _ h=>h.1) _ _ _ _ ?_
  replace hH:=And.intro hH hz
  refine td (i:=13) (d:=some 41) (v:=.string ⟨#[lb]⟩) rfl rfl (fun V hW=>?_) hH ?_
  · have hcb:=Td hW.2
    clear hW hH
    go_simp
  refine tx 14 42 (.string ⟨#[98,0,0,9,98,0,0,1,45,98,0,0,7,98,0,0,0,98,0,0,0,50,lb]⟩) hH ?_
  refine r1 15 fun K hK=>?_
  go_simp
  refine hK.out _ _ hH fun hH=>?_
  refine dn ?_
  exact ⟨rfl,hH.1,_,rfl,⟨rfl,rfl,rfl,rfl,rfl,rfl,rfl⟩,rfl⟩
theorem Aqt {T : Array Value} {bad : Bool} {g v : Nat} {ct : ByteArray} (hT : F8 T bad false g v) (h13 : T[13]? = some (.string ct)) (hg : g < 60000) (hv : v < 100) (W : World) (Φ : Act -> World -> Prop) (hΦ : ∀ T' st w',F8 T' bad false g v -> T'[13]? = some (.string ct) -> T'[14]? = some (.string st) -> ByteArray.data st = #[98,0,0,0,98,0,0,0,98,0,0,0,98,0,0,0,98,0,0,UInt8.ofNat v,98,0,0,3,98,0,UInt8.ofNat (g / 256),UInt8.ofNat g,61,98,0,0,1,1,98,0,0,5,45] -> Below W.heap.size W w' -> Φ ⟨T',[]⟩ w') :
    (ng8 5).wp TryQ.prog (fun e a w=>e = .normal /\ (ng8 6).wp TryQ.prog (fun e a w=>e = .normal /\ (ng8 7).wp TryQ.prog (fun e a w=>e = .normal /\ Φ a w) a w) a w) ⟨T,[]⟩ W:=by
  have hΦs : Shut _:=hΦ
  clear hΦ
  obtain ⟨x,rfl⟩:=U5 T hT.sz
  have e2 : x 2 = _:=Option.some.inj hT.t2
  have e3 : x 3 = _:=Option.some.inj hT.t3
  have e8 : x 8 = _:=Option.some.inj hT.t8
  have e9 : x 9 = _:=Option.some.inj hT.t9
  have e10 : x 10 = _:=Option.some.inj hT.t10
  have e11 : x 11 = _:=Option.some.inj hT.t11
  have e13 : x 13 = _:=Option.some.inj h13
  clear hT h13
  rw [e2,e3,e8,e9,e10,e11,e13]
  clear e2 e3 e8 e9 e10 e11 e13
  have hb : Below W.heap.size W W:=Below.refl _ _
  have z1 : UInt8.ofNat (g / 65536) = 0:=by rw [show g / 65536 = 0 by omega]; rfl
  have z2 : UInt8.ofNat (v / 65536) = 0:=by rw [show v / 65536 = 0 by omega]; rfl
  have z3 : UInt8.ofNat (v / 256) = 0:=by rw [show v / 256 = 0 by omega]; rfl
  have zs : Shut (UInt8.ofNat (g / 65536) = 0 /\ UInt8.ofNat (v / 65536) = 0 /\ UInt8.ofNat (v / 256) = 0):=⟨z1,z2,z3⟩
  clear z1 z2 z3
  dsimp only [ng8,hd8,tl8,nc8,Tryz.f8]
  go_wp2_with fail
  · skip
    refine (Cf 0 (by omega) _).mono ?_
    rintro e w2 ⟨rfl,hb2⟩
    replace hb:=hb.trans (hb2.mono hb.size)
    clear hb2
    go_wp2_with fail
    refine (Cf 0 (by omega) _).mono ?_
    rintro e w2 ⟨rfl,hb2⟩
    replace hb:=hb.trans (hb2.mono hb.size)
    clear hb2
    go_wp2_with fail
    refine (Cf 0 (by omega) _).mono ?_
    rintro e w2 ⟨rfl,hb2⟩
    replace hb:=hb.trans (hb2.mono hb.size)
    clear hb2
    go_wp2_with fail
    refine (Cf 0 (by omega) _).mono ?_
    rintro e w2 ⟨rfl,hb2⟩
    replace hb:=hb.trans (hb2.mono hb.size)
    clear hb2
    go_wp2_with fail
    refine (Cf v (by omega) _).mono ?_
    rintro e w2 ⟨rfl,hb2⟩
    replace hb:=hb.trans (hb2.mono hb.size)
    clear hb2
    go_wp2_with fail
    refine (Cf 3 (by omega) _).mono ?_
    rintro e w2 ⟨rfl,hb2⟩
    replace hb:=hb.trans (hb2.mono hb.size)
    clear hb2
    go_wp2_with fail
    refine (Cf g (by omega) _).mono ?_
    rintro e w2 ⟨rfl,hb2⟩
    replace hb:=hb.trans (hb2.mono hb.size)
    clear hb2
    go_wp2_with fail
    refine (Cf 1 (by omega) _).mono ?_
    rintro e w2 ⟨rfl,hb2⟩
    replace hb:=hb.trans (hb2.mono hb.size)
    clear hb2
    go_wp2_with fail
    refine (Cf 5 (by omega) _).mono ?_
    rintro e w2 ⟨rfl,hb2⟩
    replace hb:=hb.trans (hb2.mono hb.size)
    clear hb2
    go_wp2_with fail
    exact hΦs.out _ _ _ ⟨rfl,rfl,rfl,rfl,rfl,rfl,rfl⟩ rfl rfl (by obtain ⟨z1,z2,z3⟩:=zs.out; simp [pu,z1,z2,z3]) hb
theorem Aqs {T : Array Value} {bad : Bool} {g v : Nat} {ct : ByteArray} (hT : F8 T bad true g v) (h13 : T[13]? = some (.string ct)) (hg : g < 60000) (hv : v < 100) (W : World) (Φ : Act -> World -> Prop) (hΦ : ∀ T' st w',F8 T' bad true g 0 -> T'[13]? = some (.string ct) -> T'[14]? = some (.string st) -> ByteArray.data st = #[98,0,0,0,98,0,0,0,98,0,0,0,98,0,0,0,98,0,0,3,98,0,UInt8.ofNat (g / 256),UInt8.ofNat g,62,98,0,0,1,1,98,0,0,5,45] -> Below W.heap.size W w' -> Φ ⟨T',[]⟩ w') :
    (ng8 5).wp TryQ.prog (fun e a w=>e = .normal /\ (ng8 6).wp TryQ.prog (fun e a w=>e = .normal /\ (ng8 7).wp TryQ.prog (fun e a w=>e = .normal /\ Φ a w) a w) a w) ⟨T,[]⟩ W:=by
  have hΦs : Shut _:=hΦ
  clear hΦ
  obtain ⟨x,rfl⟩:=U5 T hT.sz
  have e2 : x 2 = _:=Option.some.inj hT.t2
  have e3 : x 3 = _:=Option.some.inj hT.t3
  have e8 : x 8 = _:=Option.some.inj hT.t8
  have e9 : x 9 = _:=Option.some.inj hT.t9
  have e10 : x 10 = _:=Option.some.inj hT.t10
  have e11 : x 11 = _:=Option.some.inj hT.t11
  have e13 : x 13 = _:=Option.some.inj h13
  clear hT h13
  rw [e2,e3,e8,e9,e10,e11,e13]
  clear e2 e3 e8 e9 e10 e11 e13
  have hb : Below W.heap.size W W:=Below.refl _ _
  have z1 : UInt8.ofNat (g / 65536) = 0:=by rw [show g / 65536 = 0 by omega]; rfl
  have z2 : UInt8.ofNat (v / 65536) = 0:=by rw [show v / 65536 = 0 by omega]; rfl
  have z3 : UInt8.ofNat (v / 256) = 0:=by rw [show v / 256 = 0 by omega]; rfl
  have zs : Shut (UInt8.ofNat (g / 65536) = 0 /\ UInt8.ofNat (v / 65536) = 0 /\ UInt8.ofNat (v / 256) = 0):=⟨z1,z2,z3⟩
  clear z1 z2 z3
  dsimp only [ng8,hd8,tl8,nc8,Tryz.f8]
  go_wp2_with fail
  · skip
    refine (Cf 0 (by omega) _).mono ?_
    rintro e w2 ⟨rfl,hb2⟩
    replace hb:=hb.trans (hb2.mono hb.size)
    clear hb2
    go_wp2_with fail
    refine (Cf 0 (by omega) _).mono ?_
    rintro e w2 ⟨rfl,hb2⟩
    replace hb:=hb.trans (hb2.mono hb.size)
    clear hb2
    go_wp2_with fail
    refine (Cf 0 (by omega) _).mono ?_
    rintro e w2 ⟨rfl,hb2⟩
    replace hb:=hb.trans (hb2.mono hb.size)
    clear hb2
    go_wp2_with fail
    refine (Cf 0 (by omega) _).mono ?_
    rintro e w2 ⟨rfl,hb2⟩
    replace hb:=hb.trans (hb2.mono hb.size)
    clear hb2
    go_wp2_with fail
    refine (Cf 3 (by omega) _).mono ?_
    rintro e w2 ⟨rfl,hb2⟩
    replace hb:=hb.trans (hb2.mono hb.size)
    clear hb2
    go_wp2_with fail
    refine (Cf g (by omega) _).mono ?_
    rintro e w2 ⟨rfl,hb2⟩
    replace hb:=hb.trans (hb2.mono hb.size)
    clear hb2
    go_wp2_with fail
    refine (Cf 1 (by omega) _).mono ?_
    rintro e w2 ⟨rfl,hb2⟩
    replace hb:=hb.trans (hb2.mono hb.size)
    clear hb2
    go_wp2_with fail
    refine (Cf 5 (by omega) _).mono ?_
    rintro e w2 ⟨rfl,hb2⟩
    replace hb:=hb.trans (hb2.mono hb.size)
    clear hb2
    go_wp2_with fail
    exact hΦs.out _ _ _ ⟨rfl,rfl,rfl,rfl,rfl,rfl,rfl⟩ rfl rfl (by obtain ⟨z1,z2,z3⟩:=zs.out; simp [pu,z1]) hb
end Go.Mark
