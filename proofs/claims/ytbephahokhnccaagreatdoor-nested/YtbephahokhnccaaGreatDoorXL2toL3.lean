import Derived.Test.YtbephahokhnccaaGreatDoorXK17toK38
set_option linter.unusedSectionVars false
set_option maxRecDepth 100000
set_option maxHeartbeats 8000000
namespace Go.Mark
open Go.RowKit Go.Proofs
variable [BaseB]
attribute [local go_sem] wd
theorem payx {W : World} {f : Nat} {F : Frm} {sv : SV} (hf : W.heap[f]? = ob (frC F sv) 225) (i t l g x : Int)
    (hsh : ∀ w,Calls TryQ.prog 290 #[.int .u8 i] w fun e w'=>e = .returned (.tuple #[.agg #[.int .i64 t,.int .i64 l,.int .i64 g],.bool true]) /\ Below w.heap.size w w')
    (hto : ∀ w,Below W.heap.size W w -> Calls TryQ.prog 291 #[pq f 0,.int .u8 i] w fun e w'=>e = .returned (.tuple #[.int .i64 0,.nilIface]) /\ Below w.heap.size w w')
    (hex : ∀ w,Below W.heap.size W w -> Calls TryQ.prog 292 #[pq f 0,.int .u8 i] w fun e w'=>e = .returned (.int .i64 x) /\ Below w.heap.size w w')
    (ht : t <= sv.n) (hl0 : 0 <= l) (hl : (sv.n : Int) - t + l <= 1024) (hg0 : 0 <= g) (hg1 : g < 100000) (hx0 : 0 <= x) (hx1 : x < 1000000000) (hgs : 0 <= F.gas) (hgs' : F.gas < 100000000) {et : TypeId} {ev : Value} (hE : W.cell? ⟨1,0,none⟩ = some (.iface et ev)) (h1 : 1 < W.heap.size) :
    Calls TryQ.prog 262 #[pq f 0,.int .u8 i] W fun e w'=>(g + x <= F.gas /\ e = .returned .nilIface /\ w'.heap[f]? = ob (frC { F with gas:=F.gas - (g + x) } sv) 225 /\ Pres [f] [] W w') \/ (F.gas < g + x /\ e = .returned (.iface et ev) /\ Below W.heap.size W w'):=by
 have d1 : ¬ (sv.n : Int) < t:=by omega
 have d2 : ¬ (1024 < (sv.n : Int) - t + l):=by omega
 have i1 : IntKind.i64.wrap ((sv.n : Int) - t) = (sv.n : Int) - t:=IntWalk.i64_in _ ⟨by omega,by omega⟩
 have i2 : IntKind.i64.wrap ((sv.n : Int) - t + l) = (sv.n : Int) - t + l:=IntWalk.i64_in _ ⟨by omega,by omega⟩
 have i3 : IntKind.i64.wrap (g + x) = g + x:=IntWalk.i64_in _ ⟨by omega,by omega⟩
 clear ht hl0 hl
 go_enter TryQ.func262,Tryz.ntmps262
 go_wp2_with fail
 refine (hsh _).mono ?_
 rintro e w1 ⟨rfl,hb1⟩
 clear hsh
 have hf1:=bk hb1 hf
 have hf2:=Aw (p:=.cells #[.int .i64 t,.int .i64 l,.int .i64 g] 369) hf1
 have hs2:=Al w1 (.cells #[.int .i64 t,.int .i64 l,.int .i64 g] 369)
 have hb2 : Below W.heap.size W (w1.alloc (.cells #[.int .i64 t,.int .i64 l,.int .i64 g] 369)):=hb1.trans (ba.mono hb1.size)
 go_wp2_with fail
 change Code.wp _ _ _ _ (w1.alloc (.cells #[.int .i64 t,.int .i64 l,.int .i64 g] 369))
 generalize w1.alloc (.cells #[.int .i64 t,.int .i64 l,.int .i64 g] 369) = w2 at hf2 hs2 hb2 ⊢
 refine rq (fun V=>V.heap[f]? = ob (frC F sv) 225 /\ V.heap[w1.heap.size]? = ob #[.int .i64 t,.int .i64 l,.int .i64 g] 369) ⟨hf2,hs2⟩ fun hH=>?_
 refine tx 0 18 (pq f 0) hH ?_
 refine tx 1 19 (pq f 0) hH ?_
 refine tx 2 20 (pq f 14) hH ?_
 refine tv 3 21 (.slice sv.a sv.n sv.c) (fun _ hW=>bq (hW.1) 14 rfl) hH ?_
 refine tx 4 22 (.int .i64 (sv.n : Int)) hH ?_
 refine tx 5 23 (pq w1.heap.size 0) hH ?_
 refine tv 6 24 (.int .i64 t) (fun _ hW=>bq (hW.2) 0 rfl) hH ?_
 refine tx 7 25 (.bool (decide ((sv.n : Int) < t))) hH ?_
 refine dn ?_
 go_wp2_with fail
 refine rq (fun V=>V.heap[f]? = ob (frC F sv) 225 /\ V.heap[w1.heap.size]? = ob #[.int .i64 t,.int .i64 l,.int .i64 g] 369) ⟨hf2,hs2⟩ fun hH=>?_
 refine tx 0 27 (pq f 0) hH ?_
 refine tx 1 28 (pq f 0) hH ?_
 refine tx 2 29 (pq f 14) hH ?_
 refine tv 3 30 (.slice sv.a sv.n sv.c) (fun _ hW=>bq (hW.1) 14 rfl) hH ?_
 refine tx 4 31 (.int .i64 (sv.n : Int)) hH ?_
 refine tx 5 32 (pq w1.heap.size 0) hH ?_
 refine tv 6 33 (.int .i64 t) (fun _ hW=>bq (hW.2) 0 rfl) hH ?_
 refine tx 7 34 (.int .i64 ((sv.n : Int) - t)) hH ?_
 refine tx 8 35 (pq w1.heap.size 1) hH ?_
 refine tv 9 36 (.int .i64 l) (fun _ hW=>bq (hW.2) 1 rfl) hH ?_
 refine tx 10 37 (.int .i64 ((sv.n : Int) - t + l)) hH ?_
 refine tx 11 38 (.bool (decide ((sv.n : Int) - t + l > 1024))) hH ?_
 refine dn ?_
 go_wp2_with fail
 refine (hto _ hb2.drew.drew).mono ?_
 rintro e w4 ⟨rfl,hw4⟩
 clear hto
 have hb4 : Below W.heap.size W w4:=hb2.drew.drew.trans (hw4.mono hb2.size)
 replace hf2 : w4.heap[f]? = ob (frC F sv) 225:=(hw4.block _ (Aa (w:=w2.drew.drew) hf2)).trans hf2
 replace hs2:=(hw4.block _ (Aa (w:=w2.drew.drew) hs2)).trans hs2
 clear hw4 hb2
 go_wp2_with fail
 refine rq (fun V=>V.heap[f]? = ob (frC F sv) 225 /\ V.heap[w1.heap.size]? = ob #[.int .i64 t,.int .i64 l,.int .i64 g] 369) ⟨hf2,hs2⟩ fun hH=>?_
 refine tx 0 49 (pq w1.heap.size 2) hH ?_
 refine tv 1 50 (.int .i64 g) (fun _ hW=>bq (hW.2) 2 rfl) hH ?_
 refine tx 2 51 (pq f 0) hH ?_
 refine tx 3 52 (.int .u8 i) hH ?_
 refine tx 6 55 (pq f 0) hH ?_
 refine tx 7 56 (pq f 0) hH ?_
 refine tx 8 57 (pq f 15) hH ?_
 refine tv 9 58 (.slice none 0 0) (fun _ hW=>bq (hW.1) 15 rfl) hH ?_
 refine tx 10 59 (.int .i64 0) hH ?_
 refine r1 4 fun K hK=>?_
 go_simp
 refine (hex _ hb4.drew).mono ?_
 rintro e W5 ⟨rfl,hb5⟩
 go_wp2_with fail
 refine hK.out _ _ ⟨(hb5.block _ (Aa hH.1)).trans hH.1,(hb5.block _ (Aa hH.2)).trans hH.2⟩ fun hH=>?_
 clear hK K
 refine tx 5 54 (.int .i64 (g + x)) hH ?_
 refine r1 11 fun K hK=>?_
 go_simp
 refine (Ads _).mono ?_
 rintro e W6 ⟨rfl,hw6⟩
 replace hw6:=hw6.symm
 subst hw6
 go_wp2_with fail
 refine hK.out _ _ hH fun hH=>?_
 clear hK K
 refine tx 12 61 (.int .i64 (g + x)) hH ?_
 refine tx 13 9 (.int .i64 (g + x)) hH ?_
 refine dn ?_
 have hb6 : Below W.heap.size W W5:=hb4.drew.trans (hb5.mono hb4.size)
 have hf6:=hH.1
 have hE6:=(hb6.cell (p:=⟨1,0,none⟩) h1).trans hE
 have c13:=bq hf6 13 rfl
 have f13:=Ai hf6 13
 clear hH hb5 hb4 hf2 hs2
 by_cases d3 : F.gas < g + x
 · go_wp2
   go_ret
   exact .inr ⟨d3,rfl,hb6⟩
 · have i4 : IntKind.i64.wrap (F.gas - (g + x)) = F.gas - (g + x):=IntWalk.i64_in _ ⟨by omega,by omega⟩
   go_wp2_with fail
   have hf7:=Av (i:=13) (v:=.int .i64 (F.gas - (g + x))) hf6
   rw [Adl] at hf7
   have hp7 : Pres [f] [] W (W5.setCell ⟨f,13,none⟩ (.int .i64 (F.gas - (g + x)))):=Pres.trans (.of_below hb6 _ _) (Pres.setCell W5 f 13 _)
   refine (Adi (o:=15) hf7 rfl).mono ?_
   rintro e w8 ⟨rfl,hb8⟩
   clear c13 f13
   go_wp2
   go_ret
   exact .inl ⟨by omega,rfl,(hb8.block _ (Aa hf7)).trans hf7,hp7.trans (.of_below hb8 _ _)⟩
def Xh (W : World) (F : Frm) (et : TypeId) (ev : Value) (v : Value) (w' : World) : Prop :=
  ∃ fb,v = .iface 217 (.agg #[.int .i64 F.gas,.iface 299 (pq fb 0)]) /\ w'.heap[fb]? = ob #[.int .i64 F.self,.int .i64 F.place,.iface et ev,.int .i64 F.bl,.int .i64 F.bg,.int .i64 F.bb] 303 /\ W.heap.size <= fb /\ Below W.heap.size W w'
theorem Agw {W : World} {f : Nat} {F : Frm} {sv : SV} (hf : W.heap[f]? = ob (frC F sv) 225) (i len cost : Int) {C : Prop} {Bw : TypeId -> Value -> Prop} {Q : Frm -> SV -> World -> Prop} {R : Value -> World -> Prop}
    (hin : Calls TryQ.prog 261 #[pq f 0] W fun e w'=>e = .returned (.int .u8 i) /\ Below W.heap.size W w')
    (hpay : ∀ w,Below W.heap.size W w -> Calls TryQ.prog 262 #[pq f 0,.int .u8 i] w fun e w'=>(C /\ e = .returned .nilIface /\ w'.heap[f]? = ob (frC { F with gas:=F.gas - cost } sv) 225 /\ Pres [f] [] w w') \/ (∃ et ev,Bw et ev /\ e = .returned (.iface et ev) /\ Below w.heap.size w w'))
    (hlen : ∀ w,Calls TryQ.prog 147 #[.int .u8 i] w fun e w'=>e = .returned (.int .i64 len) /\ w' = w)
    (hpl : 0 <= F.place) (hpl' : F.place < 1000000) (hl0 : 0 <= len) (hl1 : len < 100)
    (hdo : C -> ∀ w,w.heap[f]? = ob (frC { F with gas:=F.gas - cost,next:=F.place + len } sv) 225 -> Pres [f] [] W w -> Calls TryQ.prog 263 #[pq f 0,.int .u8 i] w fun e w'=>(e = .returned .nilIface /\ ∃ F' sv,w'.heap[f]? = ob (frC F' sv) 225 /\ Q F' sv w') \/ (∃ t v,e = .returned (.iface t v) /\ R (.iface t v) w')) :
    Calls TryQ.prog 224 #[pq f 0] W fun e w'=>(e = .returned .nilIface /\ ∃ F' sv w1,Q F' sv w1 /\ w'.heap[f]? = ob (frC { F' with place:=F'.next } sv) 225 /\ w1.heap[f]? = ob (frC F' sv) 225 /\ Pres [f] [] w1 w') \/ (∃ t v,e = .returned (.iface t v) /\ (R (.iface t v) w' \/ ∃ et ev,Bw et ev /\ Xh W F et ev (.iface t v) w')):=by
 have hwl : IntKind.i64.wrap (F.place + len) = F.place + len:=IntWalk.i64_in _ ⟨by omega,by omega⟩
 go_enter TryQ.func224,Tryz.ntmps224
 go_wp2_with fail
 refine hin.mono ?_
 rintro e w1 ⟨rfl,hb1⟩
 have hf1:=bk hb1 hf
 clear hin
 go_wp2_with fail
 refine (hpay w1 hb1).mono ?_
 rintro e w2 (⟨hC,rfl,hf2,hp2⟩ | ⟨et,ev,hB,rfl,hb2⟩)
 · clear hpay
   have c16:=bq hf2 16 rfl
   have c17:=bq hf2 17 rfl
   have f17:=Ai hf2 17
   go_wp2_with fail
   refine rq (fun V=>V.cell? ⟨f,16,none⟩ = some (.int .i64 F.place)) c16 fun hH=>?_
   refine tx 0 16 (pq f 0) hH ?_
   refine tx 1 17 (pq f 0) hH ?_
   refine tx 2 18 (pq f 0) hH ?_
   refine tx 3 19 (pq f 16) hH ?_
   refine td (i:=4) (d:=some 20) (v:=.int .i64 F.place) rfl rfl (fun V hW=>?_) hH ?_
   ·have k0 : V.cell? ⟨f,16,none⟩ = some (.int .i64 F.place):=hW
    clear hW hH
    go_simp
   refine tx 5 21 (.int .u8 i) hH ?_
   refine r1 6 fun K hK=>?_
   go_simp
   refine (hlen _).mono ?_
   rintro e W4 ⟨rfl,hw4⟩
   subst hw4
   go_wp2_with fail
   refine hK.out _ _ hH fun hH=>?_
   clear hK K
   refine tx 7 23 (.int .i64 (F.place + len)) hH ?_
   refine tx 8 24 (pq f 0) hH ?_
   refine tx 9 25 (pq f 17) hH ?_
   refine r1 10 fun K hK=>?_
   go_simp
   refine hK.out _ _ ((Ad (Av (i:=17) (v:=.int .i64 (F.place + len)) hf2) 16).trans rfl) fun hH=>?_
   clear hK K
   refine dn ?_
   clear c16 c17 f17 hlen
   have hf3 : (w2.setCell ⟨f,17,none⟩ (.int .i64 (F.place + len))).drew.heap[f]? = ob (frC { F with gas:=F.gas - cost,next:=F.place + len } sv) 225:=by
    have:=Av (i:=17) (v:=.int .i64 (F.place + len)) hf2
    rw [Yk] at this
    exact this
   have hp3 : Pres [f] [] W (w2.setCell ⟨f,17,none⟩ (.int .i64 (F.place + len))).drew:=(((Pres.of_below hb1 [f] []).trans hp2).trans (Pres.setCell w2 f 17 _)).dr
   have hdo3:=hdo hC _ hf3 hp3
   go_wp2_with fail
   refine hdo3.mono ?_
   clear hdo hdo3
   rintro e w4 (⟨rfl,F',sv',hf4,hQ⟩ | ⟨vt,vv,rfl,hR⟩)
   · have c17:=Ad hf4 17
     have c16:=Ad hf4 16
     have f16:=Ai hf4 16
     simp only [frC,List.getElem?_toArray,List.getElem?_cons_zero,List.getElem?_cons_succ] at c16 c17
     go_wp2
     go_ret
     exact .inl ⟨rfl,F',sv',w4,hQ,Av hf4,hf4,Pres.setCell w4 f 16 _⟩
   · go_wp2
     go_ret
     exact .inr ⟨_,_,rfl,.inl hR⟩
 · clear hpay
   have hf2:=bk hb2 hf1
   have hbd:=Aj3 hf2 et ev
   go_wp2_with fail
   refine hbd.mono ?_
   rintro e w3 ⟨rfl,hfb,hb3⟩
   clear hbd
   go_wp2
   go_ret
   have hbA:=hb1.trans (hb2.mono hb1.size)
   exact .inr ⟨_,_,rfl,.inr ⟨et,ev,hB,w2.heap.size,rfl,hfb,hbA.size,hbA.trans (hb3.mono hbA.size)⟩⟩
end Go.Mark
namespace Go.Mark
open Go.RowKit Go.Proofs
section
variable {P : Program} {ops : Array Oper} {Q : Exit -> Act -> World -> Prop} {md : Region.Mode} {S : World -> Prop} {k : Nat}
def F6 (P : Program) (md : Region.Mode) (ops : Array Oper) (Q : Exit -> Act -> World -> Prop) (S : World -> Prop) (k : Nat) : Nat -> Array Bool -> Act -> World -> Prop
 | 0,listed,a,w=>Region.ready md ops listed = [] /\ Q .normal a w
 | fuel + 1,listed,a,w =>
  (Region.ready md ops listed = [] -> Q .normal a w) /\
  ∀ i ∈ Region.ready md ops listed,wpOp P ops Q i (fun a' w'=>(i ≠ k -> S w') /\ F6 P md ops Q S k fuel (listed.setIfInBounds i true) a' w') a w
theorem Qm : ∀ (fuel : Nat) (listed : Array Bool) (a : Act) (w : World),F6 P md ops Q S k fuel listed a w -> wpAny P md ops Q fuel listed a w
 | 0,_,_,_,h=>h
 | fuel + 1,_,_,_,h=>⟨h.1,fun i hi=>wpOp_mono (fun a' w' h'=>Qm fuel _ a' w' h'.2) (h.2 i hi)⟩
theorem We {i : Nat} {oi : Oper} {v : Value} (hi : ops[i]? = some oi) (hsel : ∀ (j : Nat) (o : Oper) cs b,ops[j]? = some o -> o.op ≠ .select cs b) (hik : i ≠ k) (hk : ∀ o,ops[k]? = some o -> ∃ e ∈ o.after,Region.binds md e = true /\ e.on = i)
  (hQ : ∀ c a w,Q (.panic c) (a.put oi.dst v) w -> Q (.panic c) a w) :
  ∀ (fuel : Nat) (listed : Array Bool) (a : Act) (w : World),
   (∀ j oj,ops[j]? = some oj -> j ≠ i -> listed.getD j true = false -> (∀ e ∈ oj.after,Region.binds md e = true -> e.on ≠ i) -> oi.apart ops oj = true) ->
   i ∈ Region.ready md ops listed -> YieldsIf P ops S oi v a -> S w ->
   F6 P md ops Q S k fuel (listed.setIfInBounds i true) (a.put oi.dst v) w -> F6 P md ops Q S k (fuel + 1) listed a w:=by
 intro fuel
 induction fuel with
 | zero =>
  intro listed a w _ hr hy hS H
  refine ⟨fun h=>(by rw [h] at hr; cases hr),fun j hj=>?_⟩
  by_cases hji : j = i
  ·subst hji; exact hy.wpOp hi hS ⟨fun _=>hS,H⟩
  ·have:=ready_mono hj hji
   rw [H.1] at this
   cases this
 | succ fuel ih =>
  intro listed a w hfree hr hy hS H
  refine ⟨fun h=>(by rw [h] at hr; cases hr),fun j hj=>?_⟩
  by_cases hji : j = i
  ·subst hji; exact hy.wpOp hi hS ⟨fun _=>hS,H⟩
  ·have h1:=H.2 j (ready_mono hj hji)
   obtain ⟨hjun,oj,hoj,hall⟩:=mem_ready.1 hj
   have hnot : ∀ e ∈ oj.after,Region.binds md e = true -> e.on ≠ i:=fun e he hb heq=>by
    have h1:=hall e he hb
    have h0:=(mem_ready.1 hr).1
    rw [heq] at h1
    rcases Nat.lt_or_ge i listed.size with h' | h'
    ·simp [h'] at h0 h1; rw [h0] at h1; cases h1
    ·simp [Array.getElem?_eq_none h'] at h1
   have hjk : j ≠ k:=fun e=>by
    subst e
    obtain ⟨e,he,hb,ho⟩:=hk oj hoj
    exact hnot e he hb ho
   have h2:=wpOp_putIf hoj (hfree j oj hoj hji hjun hnot) (fun cs b=>hsel i oi cs b hi) (fun cs b=>hsel j oj cs b hoj) hQ hy h1
   have hfree' : ∀ k ok,ops[k]? = some ok -> k ≠ i -> (listed.setIfInBounds j true).getD k true = false ->
     (∀ e ∈ ok.after,Region.binds md e = true -> e.on ≠ i) -> oi.apart ops ok = true:=fun k ok hk hki hun hno=>by
    refine hfree k ok hk hki ?_ hno
    by_cases hjk : j = k
    ·subst hjk; exact hjun
    ·rw [getD_set_ne true hjk] at hun; exact hun
   refine wpOp_mono (fun a' w' h3=>⟨h3.2.1,ih (listed.setIfInBounds j true) a' w' hfree' (ready_mono hr (Ne.symm hji)) h3.1 (h3.2.1 hjk) ?_⟩) h2
   rw [Array.setIfInBounds_comm _ _ hji]
   exact h3.2.2
def Nq (md : Region.Mode) (ops : Array Oper) (k i : Nat) : Bool:=match ops[k]? with
 | some o=>o.after.any fun e=>Region.binds md e && e.on == i
 | none=>true
theorem Rx {i : Nat} (h : Nq md ops k i = true) : ∀ o,ops[k]? = some o -> ∃ e ∈ o.after,Region.binds md e = true /\ e.on = i:=fun o ho=>by
 unfold Nq at h
 rw [ho] at h
 simp only [Array.any_eq_true] at h
 obtain ⟨j,hj,h⟩:=h
 simp only [Bool.and_eq_true,beq_iff_eq] at h
 exact ⟨_,Array.getElem_mem hj,h⟩
theorem tk {i : Nat} {oi : Oper} {d : Option Tmp} {v : Value} {fuel : Nat} {listed : Array Bool} {a a' : Act} {w : World} (hi : ops[i]? = some oi) (hd : oi.dst = d)
  (hy : ∀ w,S w -> (execOp a.eval oi).run P w = .ok (.value v) w) (hS : S w) (h : F6 P md ops Q S k fuel (listed.setIfInBounds i true) a' w)
  (hs : Region.noSelect ops = true:=by kernel_rfl) (hf : Region.free md ops listed i = true:=by kernel_rfl) (hr : (Region.ready md ops listed).contains i = true:=by kernel_rfl) (hk : Nq md ops k i = true:=by kernel_rfl) (hik : i ≠ k:=by decide)
  (hQ : ∀ c a w,Q (.panic c) (a.put oi.dst v) w -> Q (.panic c) a w:=by intro _ _ _ h; first | exact h | cases h.1) (hw : Region.wanted oi (yielded ops a.tmps) = true:=by rfl) (hp : a.put d v = a':=by (simp only [Act.put,List.setIfInBounds_toArray,List.set_cons_zero,List.set_cons_succ]; try rfl)) : F6 P md ops Q S k (fuel + 1) listed a w:=by
 subst hp hd
 exact We hi (Region.noSelect_spec hs) hik (Rx hk) hQ fuel listed a w (Region.free_spec hi hf) (by simpa using hr) (Or.inl ⟨hw,hy⟩) hS h
theorem rk {fuel : Nat} {listed : Array Bool} {a : Act} {w : World} {i : Nat} {o : Oper} (ho : ops[i]? = some o)
  (h : ∀ K' : Act -> World -> Prop,Shut (∀ a w,S w -> (S w -> F6 P md ops Q S k fuel (listed.setIfInBounds i true) a w) -> K' a w) -> if Region.wanted o (yielded ops a.tmps) = true then Oper.wp P o a w K' Q else K' (a.put o.dst ud) w)
  (hr : Region.ready md ops listed = [i]:=by kernel_rfl) : F6 P md ops Q S k (fuel + 1) listed a w:=by
 refine ⟨fun h0=>(by rw [hr] at h0; cases h0),fun j hj=>?_⟩
 rw [hr] at hj
 obtain rfl:=List.mem_singleton.1 hj
 exact wpOp_step ho (fun K' hK=>h K' (fun a w hS hW=>hK a w ⟨fun _=>hS,hW hS⟩))
theorem rl {fuel : Nat} {listed : Array Bool} {a : Act} {w : World} {o : Oper} (ho : ops[k]? = some o)
  (h : ∀ K' : Act -> World -> Prop,Shut (∀ a w,F6 P md ops Q S k fuel (listed.setIfInBounds k true) a w -> K' a w) -> if Region.wanted o (yielded ops a.tmps) = true then Oper.wp P o a w K' Q else K' (a.put o.dst ud) w)
  (hr : Region.ready md ops listed = [k]:=by kernel_rfl) : F6 P md ops Q S k (fuel + 1) listed a w:=by
 refine ⟨fun h0=>(by rw [hr] at h0; cases h0),fun j hj=>?_⟩
 rw [hr] at hj
 obtain rfl:=List.mem_singleton.1 hj
 exact wpOp_step ho (fun K' hK=>h K' (fun a w hW=>hK a w ⟨fun e=>absurd rfl e,hW⟩))
theorem dk {listed : Array Bool} {a : Act} {w : World} (hr : Region.ready md ops listed = []) (h : Q .normal a w) : ∀ fuel,F6 P md ops Q S k fuel listed a w
 | 0=>⟨hr,h⟩
 | _ + 1=>⟨fun _=>h,by rw [hr]; simp⟩
theorem sk {id : Nat} {a : Act} {w : World} (k : Nat) (hm : P.follows .mixedOrders = true) (hS : S w.drew) (h : S w.drew -> F6 P .any ops Q S k ops.size (Array.replicate ops.size false) a w.drew) : (Code.region id ops true).wp P Q a w :=
 wp_region_any hm (Qm _ _ _ _ (h hS))
end
end Go.Mark
namespace Go.Mark
open Go.RowKit Go.Proofs
variable [BaseB]
attribute [local go_sem] wd
theorem U1 (x : Nat) (hx : x < M) (W : World) : (Op.equalIn 10000 41 (.agg (wq x)) (.agg wz)).run TryQ.prog W = .ok (decide (x = 0)) W:=eqz x hx W
theorem Acn (a b c d : Value) (W : World) : (Instr.index 41 (.agg #[a,b,c,d]) (.int .i64 0)).run TryQ.prog W = .ok a W:=by
 have hz : (Go.sizeOf 39).run TryQ.prog W = .ok 1 W:=(Ag 39 W).trans (Tryz.sizeOf39 W)
 simp [Instr.index,run_underlying ((Ab 41).trans Tryz.underlying41),asIntOf,go_sem,hz]
theorem Pz (a : Nat) (W : World) :
    Calls TryQ.prog 318 #[wd a,wd 0] W fun e w'=>e = .returned (.tuple #[.int .i64 0,.nilIface]) /\ Below W.heap.size W w':=by
 have hz:=U1 0 (by decide)
 go_enter TryQ.func318,Tryz.ntmps318
 go_wp2
 simp [bodyPost,results,Tryz.results318,go_sem]
 exact ba.alloc (by simp) _
theorem Xm (a : Nat) (v : Value) (W : World) :
    Calls TryQ.prog 297 #[v,wd a,wd 0] W fun e w'=>e = .returned (.slice none 0 0) /\ Below W.heap.size W w':=by
 have hz:=U1 0 (by decide)
 go_enter TryQ.func297,Tryz.ntmps297
 go_wp2
 go_ret
 exact ⟨rfl,ba.alloc (by simp) _⟩
theorem Aat (f : Nat) (w : World) : Calls TryQ.prog 291 #[pq f 0,.int .u8 45] w fun e w'=>e = .returned (.tuple #[.int .i64 0,.nilIface]) /\ w' = w:=by
 go_enter TryQ.func291,Tryz.ntmps291
 go_wp2
 simp [bodyPost,results,Tryz.results291,go_sem]
theorem Aas {W : World} {f : Nat} {F : Frm} {sv : SV} {T : List Nat} {a : Nat} (hf : W.heap[f]? = ob (frC F sv) 225) (hs : Stk W sv (T ++ [0,a])) :
    Calls TryQ.prog 291 #[pq f 0,.int .u8 50] W fun e w'=>e = .returned (.tuple #[.int .i64 0,.nilIface]) /\ Below W.heap.size W w':=by
 go_enter TryQ.func291,Tryz.ntmps291
 go_wp2_with fail
 refine rq (fun V=>V.heap[f]? = ob (frC F sv) 225) hf fun hH=>?_
 refine tx 0 33 (pq f 0) hH ?_
 refine tx 1 34 (pq f 0) hH ?_
 refine tx 2 35 (pq f 14) hH ?_
 refine tv 3 36 (.slice sv.a sv.n sv.c) (fun _ hW=>bq hW 14 rfl) hH ?_
 refine tx 5 38 (pq f 0) hH ?_
 refine tx 6 39 (pq f 0) hH ?_
 refine tx 7 40 (pq f 14) hH ?_
 refine tv 8 41 (.slice sv.a sv.n sv.c) (fun _ hW=>bq hW 14 rfl) hH ?_
 refine r1 4 fun K hK=>?_
 go_simp
 refine (Fg (hs.below (Below.refl _ _).drew) 1 (by decide) (j:=T.length + 1) (x:=a) (by simp) (by simp)).mono ?_
 rintro e W1 ⟨rfl,hb1⟩
 go_wp2_with fail
 refine hK.out _ _ ((hb1.block _ (Aa hH)).trans hH) fun hH=>?_
 clear hK K
 refine r1 9 fun K hK=>?_
 go_simp
 refine (Fg (hs.below ((Below.refl _ _).drew.trans hb1)) 2 (by decide) (j:=T.length) (x:=0) (by simp) (by simp)).mono ?_
 rintro e W2 ⟨rfl,hb2⟩
 go_wp2_with fail
 refine hK.out _ _ ((hb2.block _ (Aa hH)).trans hH) fun hH=>?_
 clear hK K
 refine r1 10 fun K hK=>?_
 go_simp
 refine (Pz a _).mono ?_
 rintro e W3 ⟨rfl,hb3⟩
 go_wp2_with fail
 refine hK.out _ _ ((hb3.block _ (Aa hH)).trans hH) fun hH=>?_
 clear hK K
 refine tx 11 44 (.int .i64 0) hH ?_
 refine tx 12 45 .nilIface hH ?_
 refine tx 13 4 (.int .i64 0) hH ?_
 refine tx 14 5 .nilIface hH ?_
 refine dn ?_
 go_wp2
 simp [bodyPost,results,Tryz.results291,go_sem]
 exact (((Below.refl _ _).drew.trans hb1).trans (hb2.mono hb1.size)).trans (hb3.mono (Nat.le_trans hb1.size hb2.size))
theorem far4 {W : World} {f : Nat} {F : Frm} {sv : SV} {T : List Nat} {v t g : Nat} (hf : W.heap[f]? = ob (frC F sv) 225) (hs : Stk W sv (T ++ [0,0,0,0,v,t,g])) :
    Calls TryQ.prog 320 #[pq f 0,.int .i64 4] W fun e w'=>e = .returned (.tuple #[.int .i64 0,.nilIface]) /\ Below W.heap.size W w':=by
 have hw1 : IntKind.i64.wrap 5 = 5:=by decide
 have hw2 : IntKind.i64.wrap 6 = 6:=by decide
 have hw3 : IntKind.i64.wrap 7 = 7:=by decide
 go_enter TryQ.func320,Tryz.ntmps320
 go_wp2_with fail
 refine rq (fun V=>V.heap[f]? = ob (frC F sv) 225) hf fun hH=>?_
 refine tx 0 10 (pq f 0) hH ?_
 refine tx 1 11 (pq f 0) hH ?_
 refine tx 2 12 (pq f 14) hH ?_
 refine tv 3 13 (.slice sv.a sv.n sv.c) (fun _ hW=>bq hW 14 rfl) hH ?_
 refine tx 4 14 (.int .i64 4) hH ?_
 refine tx 6 16 (pq f 0) hH ?_
 refine tx 7 17 (pq f 0) hH ?_
 refine tx 8 18 (pq f 14) hH ?_
 refine tv 9 19 (.slice sv.a sv.n sv.c) (fun _ hW=>bq hW 14 rfl) hH ?_
 refine tx 10 20 (.int .i64 4) hH ?_
 refine tx 11 21 (.int .i64 5) hH ?_
 refine r1 5 fun K hK=>?_
 go_simp
 refine (Fg (hs.below (Below.refl _ _).drew) 4 (by decide) (j:=T.length + 3) (x:=0) (by simp) (by simp)).mono ?_
 rintro e W1 ⟨rfl,hb1⟩
 have hc1:=(Below.refl _ _).drew.trans hb1
 go_wp2_with fail
 refine hK.out _ _ ((hb1.block _ (Aa hH)).trans hH) fun hH=>?_
 clear hK K
 refine r1 12 fun K hK=>?_
 go_simp
 refine (Fg (hs.below hc1) 5 (by decide) (j:=T.length + 2) (x:=0) (by simp) (by simp)).mono ?_
 rintro e W2 ⟨rfl,hb2⟩
 have hc2:=hc1.trans (hb2.mono hc1.size)
 go_wp2_with fail
 refine hK.out _ _ ((hb2.block _ (Aa hH)).trans hH) fun hH=>?_
 clear hK K
 refine r1 13 fun K hK=>?_
 go_simp
 refine (Pz 0 _).mono ?_
 rintro e W3 ⟨rfl,hb3⟩
 have hc3:=hc2.trans (hb3.mono hc2.size)
 go_wp2_with fail
 refine hK.out _ _ ((hb3.block _ (Aa hH)).trans hH) fun hH=>?_
 clear hK K
 refine tx 14 9 (.tuple #[.int .i64 0,.nilIface]) hH ?_
 refine tx 15 24 (.int .i64 0) hH ?_
 refine tx 16 25 .nilIface hH ?_
 refine tx 17 6 (.int .i64 0) hH ?_
 refine tx 18 7 .nilIface hH ?_
 refine dn ?_
 go_wp2_with fail
 refine rq (fun V=>V.heap[f]? = ob (frC F sv) 225) ((hc3.block _ (Aa hf)).trans hf) fun hH=>?_
 refine tx 0 30 (pq f 0) hH ?_
 refine tx 1 31 (pq f 0) hH ?_
 refine tx 2 32 (pq f 14) hH ?_
 refine tv 3 33 (.slice sv.a sv.n sv.c) (fun _ hW=>bq hW 14 rfl) hH ?_
 refine tx 4 34 (.int .i64 4) hH ?_
 refine tx 5 35 (.int .i64 6) hH ?_
 refine tx 7 37 (pq f 0) hH ?_
 refine tx 8 38 (pq f 0) hH ?_
 refine tx 9 39 (pq f 14) hH ?_
 refine tv 10 40 (.slice sv.a sv.n sv.c) (fun _ hW=>bq hW 14 rfl) hH ?_
 refine tx 11 41 (.int .i64 4) hH ?_
 refine tx 12 42 (.int .i64 7) hH ?_
 refine r1 6 fun K hK=>?_
 go_simp
 refine (Fg (hs.below hc3.drew) 6 (by decide) (j:=T.length + 1) (x:=0) (by simp) (by simp)).mono ?_
 rintro e W4 ⟨rfl,hb4⟩
 have hc4:=hc3.drew.trans (hb4.mono hc3.size)
 go_wp2_with fail
 refine hK.out _ _ ((hb4.block _ (Aa hH)).trans hH) fun hH=>?_
 clear hK K
 refine r1 13 fun K hK=>?_
 go_simp
 refine (Fg (hs.below hc4) 7 (by decide) (j:=T.length + 0) (x:=0) (by simp) (by simp)).mono ?_
 rintro e W5 ⟨rfl,hb5⟩
 have hc5:=hc4.trans (hb5.mono hc4.size)
 go_wp2_with fail
 refine hK.out _ _ ((hb5.block _ (Aa hH)).trans hH) fun hH=>?_
 clear hK K
 refine r1 14 fun K hK=>?_
 go_simp
 refine (Pz 0 _).mono ?_
 rintro e W6 ⟨rfl,hb6⟩
 have hc6:=hc5.trans (hb6.mono hc5.size)
 go_wp2_with fail
 refine hK.out _ _ ((hb6.block _ (Aa hH)).trans hH) fun hH=>?_
 clear hK K
 refine tx 15 29 (.tuple #[.int .i64 0,.nilIface]) hH ?_
 refine tx 16 45 (.int .i64 0) hH ?_
 refine tx 17 46 .nilIface hH ?_
 refine tx 18 8 (.int .i64 0) hH ?_
 refine tx 19 7 .nilIface hH ?_
 refine dn ?_
 go_wp2
 simp [bodyPost,results,Tryz.results320,go_sem]
 exact hc6
theorem Aar {W : World} {f : Nat} {F : Frm} {sv : SV} {T : List Nat} {v t g : Nat} (hf : W.heap[f]? = ob (frC F sv) 225) (hs : Stk W sv (T ++ [0,0,0,0,v,t,g])) :
    Calls TryQ.prog 291 #[pq f 0,.int .u8 61] W fun e w'=>e = .returned (.tuple #[.int .i64 0,.nilIface]) /\ Below W.heap.size W w':=by
 have h:=far4 hf hs
 go_enter TryQ.func291,Tryz.ntmps291
 go_wp2_with fail
 refine h.mono ?_
 rintro e w1 ⟨rfl,hb⟩
 go_wp2
 simp [bodyPost,results,Tryz.results291,go_sem]
 exact hb
theorem far3 {W : World} {f : Nat} {F : Frm} {sv : SV} {T : List Nat} {t g : Nat} (hf : W.heap[f]? = ob (frC F sv) 225) (hs : Stk W sv (T ++ [0,0,0,0,t,g])) :
    Calls TryQ.prog 320 #[pq f 0,.int .i64 3] W fun e w'=>e = .returned (.tuple #[.int .i64 0,.nilIface]) /\ Below W.heap.size W w':=by
 have hw1 : IntKind.i64.wrap 4 = 4:=by decide
 have hw2 : IntKind.i64.wrap 5 = 5:=by decide
 have hw3 : IntKind.i64.wrap 6 = 6:=by decide
 go_enter TryQ.func320,Tryz.ntmps320
 go_wp2_with fail
 refine rq (fun V=>V.heap[f]? = ob (frC F sv) 225) hf fun hH=>?_
 refine tx 0 10 (pq f 0) hH ?_
 refine tx 1 11 (pq f 0) hH ?_
 refine tx 2 12 (pq f 14) hH ?_
 refine tv 3 13 (.slice sv.a sv.n sv.c) (fun _ hW=>bq hW 14 rfl) hH ?_
 refine tx 4 14 (.int .i64 3) hH ?_
 refine tx 6 16 (pq f 0) hH ?_
 refine tx 7 17 (pq f 0) hH ?_
 refine tx 8 18 (pq f 14) hH ?_
 refine tv 9 19 (.slice sv.a sv.n sv.c) (fun _ hW=>bq hW 14 rfl) hH ?_
 refine tx 10 20 (.int .i64 3) hH ?_
 refine tx 11 21 (.int .i64 4) hH ?_
 refine r1 5 fun K hK=>?_
 go_simp
 refine (Fg (hs.below (Below.refl _ _).drew) 3 (by decide) (j:=T.length + 3) (x:=0) (by simp) (by simp)).mono ?_
 rintro e W1 ⟨rfl,hb1⟩
 have hc1:=(Below.refl _ _).drew.trans hb1
 go_wp2_with fail
 refine hK.out _ _ ((hb1.block _ (Aa hH)).trans hH) fun hH=>?_
 clear hK K
 refine r1 12 fun K hK=>?_
 go_simp
 refine (Fg (hs.below hc1) 4 (by decide) (j:=T.length + 2) (x:=0) (by simp) (by simp)).mono ?_
 rintro e W2 ⟨rfl,hb2⟩
 have hc2:=hc1.trans (hb2.mono hc1.size)
 go_wp2_with fail
 refine hK.out _ _ ((hb2.block _ (Aa hH)).trans hH) fun hH=>?_
 clear hK K
 refine r1 13 fun K hK=>?_
 go_simp
 refine (Pz 0 _).mono ?_
 rintro e W3 ⟨rfl,hb3⟩
 have hc3:=hc2.trans (hb3.mono hc2.size)
 go_wp2_with fail
 refine hK.out _ _ ((hb3.block _ (Aa hH)).trans hH) fun hH=>?_
 clear hK K
 refine tx 14 9 (.tuple #[.int .i64 0,.nilIface]) hH ?_
 refine tx 15 24 (.int .i64 0) hH ?_
 refine tx 16 25 .nilIface hH ?_
 refine tx 17 6 (.int .i64 0) hH ?_
 refine tx 18 7 .nilIface hH ?_
 refine dn ?_
 go_wp2_with fail
 refine rq (fun V=>V.heap[f]? = ob (frC F sv) 225) ((hc3.block _ (Aa hf)).trans hf) fun hH=>?_
 refine tx 0 30 (pq f 0) hH ?_
 refine tx 1 31 (pq f 0) hH ?_
 refine tx 2 32 (pq f 14) hH ?_
 refine tv 3 33 (.slice sv.a sv.n sv.c) (fun _ hW=>bq hW 14 rfl) hH ?_
 refine tx 4 34 (.int .i64 3) hH ?_
 refine tx 5 35 (.int .i64 5) hH ?_
 refine tx 7 37 (pq f 0) hH ?_
 refine tx 8 38 (pq f 0) hH ?_
 refine tx 9 39 (pq f 14) hH ?_
 refine tv 10 40 (.slice sv.a sv.n sv.c) (fun _ hW=>bq hW 14 rfl) hH ?_
 refine tx 11 41 (.int .i64 3) hH ?_
 refine tx 12 42 (.int .i64 6) hH ?_
 refine r1 6 fun K hK=>?_
 go_simp
 refine (Fg (hs.below hc3.drew) 5 (by decide) (j:=T.length + 1) (x:=0) (by simp) (by simp)).mono ?_
 rintro e W4 ⟨rfl,hb4⟩
 have hc4:=hc3.drew.trans (hb4.mono hc3.size)
 go_wp2_with fail
 refine hK.out _ _ ((hb4.block _ (Aa hH)).trans hH) fun hH=>?_
 clear hK K
 refine r1 13 fun K hK=>?_
 go_simp
 refine (Fg (hs.below hc4) 6 (by decide) (j:=T.length + 0) (x:=0) (by simp) (by simp)).mono ?_
 rintro e W5 ⟨rfl,hb5⟩
 have hc5:=hc4.trans (hb5.mono hc4.size)
 go_wp2_with fail
 refine hK.out _ _ ((hb5.block _ (Aa hH)).trans hH) fun hH=>?_
 clear hK K
 refine r1 14 fun K hK=>?_
 go_simp
 refine (Pz 0 _).mono ?_
 rintro e W6 ⟨rfl,hb6⟩
 have hc6:=hc5.trans (hb6.mono hc5.size)
 go_wp2_with fail
 refine hK.out _ _ ((hb6.block _ (Aa hH)).trans hH) fun hH=>?_
 clear hK K
 refine tx 15 29 (.tuple #[.int .i64 0,.nilIface]) hH ?_
 refine tx 16 45 (.int .i64 0) hH ?_
 refine tx 17 46 .nilIface hH ?_
 refine tx 18 8 (.int .i64 0) hH ?_
 refine tx 19 7 .nilIface hH ?_
 refine dn ?_
 go_wp2
 simp [bodyPost,results,Tryz.results320,go_sem]
 exact hc6
theorem Aaq {W : World} {f : Nat} {F : Frm} {sv : SV} {T : List Nat} {t g : Nat} (hf : W.heap[f]? = ob (frC F sv) 225) (hs : Stk W sv (T ++ [0,0,0,0,t,g])) :
    Calls TryQ.prog 291 #[pq f 0,.int .u8 62] W fun e w'=>e = .returned (.tuple #[.int .i64 0,.nilIface]) /\ Below W.heap.size W w':=by
 have h:=far3 hf hs
 go_enter TryQ.func291,Tryz.ntmps291
 go_wp2_with fail
 refine h.mono ?_
 rintro e w1 ⟨rfl,hb⟩
 go_wp2
 simp [bodyPost,results,Tryz.results291,go_sem]
 exact hb
theorem Ajs {W : World} {f : Nat} {F : Frm} {sv : SV} {T : List Nat} {a : Nat} (hf : W.heap[f]? = ob (frC F sv) 225) (hs : Stk W sv (T ++ [0,a])) :
    Calls TryQ.prog 292 #[pq f 0,.int .u8 50] W fun e w'=>e = .returned (.int .i64 0) /\ Below W.heap.size W w':=by
 have h:=Fg hs 2 (by decide) (j:=T.length) (x:=0) (by simp) (by simp)
 have c14:=bq hf 14 rfl
 have hl0 : lim 0 0 = 0:=by decide
 have hix:=Acn
 go_enter TryQ.func292,Tryz.ntmps292
 go_wp2_with fail
 refine h.mono ?_
 rintro e w1 ⟨rfl,hb⟩
 go_wp2
 go_ret
 exact ⟨rfl,hb⟩
end Go.Mark
