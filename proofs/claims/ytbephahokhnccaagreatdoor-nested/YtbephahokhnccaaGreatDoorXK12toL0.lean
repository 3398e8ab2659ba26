import Derived.Test.YtbephahokhnccaaGreatDoorXK6toK11
set_option linter.unusedSectionVars false
set_option maxRecDepth 100000
set_option maxHeartbeats 2000000
namespace Go.Mark
open Go.RowKit Go.Proofs
variable [BaseB]
section
attribute [local go_sem] wd
def w4 (x : Nat) : List Value:=[.int .u64 (lim x 0),.int .u64 (lim x 1),.int .u64 (lim x 2),.int .u64 (lim x 3)]
def fw : List Nat -> List Value
 | []=>[]
 | x :: l=>w4 x ++ fw l
theorem Ahm : ∀ l : List Nat,(fw l).length = l.length * 4
 | []=>rfl
 | x :: l=>by simp only [fw,List.length_append,Ahm l,List.length_cons,w4,List.length_nil]; omega
theorem Vi : ∀ a b : List Nat,fw (a ++ b) = fw a ++ fw b
 | [],_=>rfl
 | x :: a,b=>by simp only [List.cons_append,fw,Vi a b,List.append_assoc]
theorem Am0 : ∀ (l : List Nat) (i : Nat) (x : Nat),l[i]? = some x -> ∀ j,j < 4 -> (fw l)[i * 4 + j]? = (w4 x)[j]?
 | [],_,_,h,_,_=>by simp at h
 | y :: l,0,x,h,j,hj=>by
  simp only [List.getElem?_cons_zero,Option.some.injEq] at h
  subst h
  simp only [fw,Nat.zero_mul,Nat.zero_add]
  exact List.getElem?_append_left (by simpa [w4] using hj)
 | y :: l,i + 1,x,h,j,hj=>by
  simp only [List.getElem?_cons_succ] at h
  simp only [fw]
  rw [List.getElem?_append_right (by simp [w4]; omega)]
  rw [show (i + 1) * 4 + j - (w4 y).length = i * 4 + j by simp [w4]; omega]
  exact Am0 l i x h j hj
theorem Aos : ∃ i z,TryQ.prog.info? 41 = some i /\ i.zero = some z /\ i.size = 4 /\ i.bytes = 32 /\ z.cells.size = 4:=by
 obtain ⟨i,hi⟩ : ∃ i,TryQ.prog.info? 41 = some i:=by
  cases h : TryQ.prog.info? 41 with
  | none=>have:=congrArg Option.isSome h; rw [show (TryQ.prog.info? 41).isSome = true by kernel_rfl] at this; cases this
  | some i=>exact ⟨i,rfl⟩
 have e8 : (TryQ.prog.info? 41).map (·.size) = some 4:=by kernel_rfl
 have e64 : (TryQ.prog.info? 41).map (·.bytes) = some 32:=by kernel_rfl
 have ez : ((TryQ.prog.info? 41).bind (·.zero)).map (·.cells.size) = some 4:=by kernel_rfl
 rw [hi] at e8 e64 ez
 simp only [Option.map_some,Option.some.injEq,Option.bind_some] at e8 e64 ez
 cases hz : i.zero with
 | none=>rw [hz] at ez; cases ez
 | some z=>rw [hz] at ez; exact ⟨i,z,hi,hz,e8,e64,by simpa using ez⟩
structure Stk (W : World) (sv : SV) (S : List Nat) : Prop where
 own : W.ownsRow BaseB.b1 41 4 (.slice sv.a sv.n sv.c) S.length (fw S)
 num : S.length < 100000
 low : BaseB.b1 <= W.heap.size
theorem Stk.n {W : World} {sv : SV} {S : List Nat} (h : Stk W sv S) : sv.n = S.length:=by
 rcases h.own.2 with ⟨h1,h2⟩ | ⟨g,cap,cur,h1,_⟩
 ·simp only [Value.slice.injEq] at h1; omega
 ·simp only [Value.slice.injEq] at h1; exact h1.2.1
theorem Stk.cells {W : World} {sv : SV} {S : List Nat} (h : Stk W sv S) {j x : Nat} (hj : S[j]? = some x) : ∃ g,sv.a = some ⟨g,0,none⟩ /\ g < W.heap.size /\ W.cell? ⟨g,j * 4,none⟩ = some (.int .u64 (lim x 0)) /\ W.cell? ⟨g,j * 4 + 1,none⟩ = some (.int .u64 (lim x 1)) /\ W.cell? ⟨g,j * 4 + 2,none⟩ = some (.int .u64 (lim x 2)) /\ W.cell? ⟨g,j * 4 + 3,none⟩ = some (.int .u64 (lim x 3)):=by
 have hjl:=(List.getElem?_eq_some_iff.1 hj).1
 rcases h.own.2 with ⟨_,h2⟩ | ⟨g,cap,cur,h1,_,hg,hnc,_,hcs,ht⟩
 ·omega
 ·simp only [Value.slice.injEq] at h1
  have hc : ∀ i,i < 4 -> W.cell? ⟨g,j * 4 + i,none⟩ = (w4 x)[i]?:=fun i hi=>by
   rw [Ad hg,<- Am0 S j x hj i hi,<- ht,List.getElem?_take_of_lt (by omega),Array.getElem?_toList]
  exact ⟨g,h1.1,Aa hg,hc 0 (by omega),hc 1 (by omega),hc 2 (by omega),hc 3 (by omega)⟩
theorem Stk.pres {W W' : World} {sv : SV} {S : List Nat} (h : Stk W sv S) {B : List Nat} {T : List TypeId} (hp : Pres B T W W') (hT : 41 ∉ T) (hB : ∀ k ∈ B,∀ o,W.heap[k]? = some o -> ∃ c t f,o = .cells c t f /\ t ≠ 41) : Stk W' sv S :=
 ⟨Cw h.own fun g hg=>by
  obtain ⟨cur,hc⟩:=Cj h.own g hg
  refine (hp.obj hc hT (fun e=>?_)).trans hc.symm
  obtain ⟨c,t,f,h1,h2⟩:=hB g e _ hc
  cases h1
  exact h2 rfl,h.num,Nat.le_trans h.low hp.size⟩
theorem Stk.below {W W' : World} {sv : SV} {S : List Nat} (h : Stk W sv S) (hb : Below W.heap.size W W') : Stk W' sv S:=⟨own_below h.own hb,h.num,Nat.le_trans h.low hb.size⟩
theorem Fg {W : World} {sv : SV} {S : List Nat} (h : Stk W sv S) (i : Nat) (hi : 0 < i) {j x : Nat} (hj : S[j]? = some x) (hn : S.length = j + i) :
  Calls TryQ.prog 319 #[.slice sv.a sv.n sv.c,.int .i64 (i : Int)] W fun e w'=>e = .returned (wd x) /\ Below W.heap.size W w':=by
 obtain ⟨g,ha,hg,c0,c1,c2,c3⟩:=h.cells hj
 have hm:=h.num
 have hsn:=h.n
 have h1 : (sv.n : Int) - (i : Int) = (j : Int):=by omega
 have h2 : (j : Int) < (sv.n : Int):=by omega
 have h3 : IntKind.i64.wrap (j : Int) = (j : Int):=IntWalk.i64_in _ ⟨by omega,by omega⟩
 rw [ha]
 clear hn hi hm hsn h hj ha
 go_enter TryQ.func319,Tryz.ntmps319
 go_wp2
 simp [bodyPost,results,Tryz.results319,go_sem]
 exact ba
theorem Vb {W : World} {sv : SV} {S : List Nat} (h : Stk W sv S) {b o : Nat} {c : Array Value} {t : TypeId} (ho : W.heap[b]? = ob c t) (hc : c[o]? = some (.slice sv.a sv.n sv.c)) (ht : t ≠ 41) (x : Nat) (hS : S.length < 99999) :
  Calls TryQ.prog 300 #[pq b o,wd x] W fun e w'=>∃ sv' : SV,e = .returned (.tuple #[]) /\ w'.heap[b]? = ob (c.setIfInBounds o (.slice sv'.a sv'.n sv'.c)) t /\ Stk w' sv' (S ++ [x]) /\ Pres [b] [41] W w':=by
 obtain ⟨i,z,hi,hz,hs,hbb,hzs⟩:=Aos
 have hbx : Below W.heap.size W (W.alloc (.cells (wq x) 41)):=ba
 have hn:=Al W (.cells (wq x) 41)
 go_enter TryQ.func300,Tryz.ntmps300
 go_wp2_with fail
 change Code.wp _ _ _ _ (W.alloc (.cells (wq x) 41))
 refine rq (fun V=>V.heap[W.heap.size]? = ob (wq x) 41) hn fun hH=>?_
 refine tx 0 4 (pq b o) hH ?_
 refine tx 1 5 (pq b o) hH ?_
 refine tx 2 6 (pq b o) hH ?_
 refine tv 4 8 (wd x) (fun _ hW=>aq (bq hW 0 rfl) (aq (bq hW 1 rfl) (aq (bq hW 2 rfl) (bq hW 3 rfl)))) hH ?_
 obtain ⟨zB,hzB⟩ : ∃ zB,(W.alloc (.cells (wq x) 41)).drew.heap.size = zB:=⟨_,rfl⟩
 have hb1 : Below W.heap.size W (W.alloc (.cells (wq x) 41)).drew:=hbx.drew
 have ho1 : (W.alloc (.cells (wq x) 41)).drew.heap[b]? = _:=bk hb1 ho
 have hst1:=h.below hb1
 have c1 : (W.alloc (.cells (wq x) 41)).drew.cell? ⟨b,o,none⟩ = some (.slice sv.a sv.n sv.c):=by rw [Ad ho1 o]; exact hc
 clear hn hbx
 generalize (W.alloc (.cells (wq x) 41)).drew = W1 at hzB hb1 ho1 hst1 c1 hH ⊢
 have hb2 : Below W1.heap.size W1 (W1.alloc (.cells (w4 x).toArray 41)):=ba
 have ho2:=Aw (p:=.cells (w4 x).toArray 41) ho1
 have hst2:=hst1.below hb2
 have hn2 : ∀ (j : Nat) (v : Value),(w4 x)[j]? = some v -> (W1.alloc (.cells (w4 x).toArray 41)).cell? ⟨zB,0 + j,none⟩ = some v:=fun j v hj=>by rw [<- hzB]; exact Et W1 (w4 x) 41 j v hj
 have hp2 : Pres [b] [41] W (W1.alloc (.cells (w4 x).toArray 41)):=.of_below (hb1.trans (hb2.mono hb1.size)) _ _
 have c2 : (W1.alloc (.cells (w4 x).toArray 41)).cell? ⟨b,o,none⟩ = some (.slice sv.a sv.n sv.c):=by rw [Ad ho2 o]; exact hc
 have hbl1:=Aa ho1
 refine wpAnyH_ready (rs:=[3,5]) (by kernel_rfl) (by simp) ?_
 refine AllReadyH.cons rfl (fun K hK=>?_) (AllReadyH.cons rfl (fun K hK=>?_) AllReadyH.nil)
 ·skip
  go_simp
  refine hK.out _ _ hH fun hH=>?_
  clear hK K
  refine r1 5 fun K hK=>?_
  go_simp
  refine hK.out _ (W1.alloc (.cells (w4 x).toArray 41)) ((hb2.block _ (Aa hH)).trans hH) fun hH=>?_
  clear hK K
  generalize hW2 : W1.alloc (.cells (w4 x).toArray 41) = W2 at hb2 ho2 hst2 hn2 hp2 c2 hH ⊢
  refine r1 6 fun K hK=>?_
  rw [if_pos (by rfl)]
  refine Fb W2 _ _ 222 rfl BaseB.b1 41 i z 4 32 ((Ab 222).trans Tryz.underlying222) hi hz hs hbb hzs (by omega) (.slice sv.a sv.n sv.c) S.length (fw S) rfl hst2.own ⟨zB,0,none⟩ 1 1 (w4 x) rfl rfl (fun j v hj=>by rw [Addr.add_mid]; exact hn2 j v hj) (fun v hv=>by simp only [w4,List.mem_cons,List.not_mem_nil,or_false] at hv; rcases hv with rfl | rfl | rfl | rfl <;> rfl) (by omega) (by simp only [maxLen]; omega) (by omega) hst2.low (zB + 1) (by rw [<- hW2]; simp [hzB]) ?_
  intro g n W3 hown3 hgrow hat hlt3 hold3
  have hnb : ∀ k,(Value.slice sv.a sv.n sv.c).ownBlock = some k -> k ≠ b:=fun k hk=>by
   obtain ⟨cur,hcur⟩:=Cj hst2.own k hk
   exact Bc hcur ho2 (fun e=>ht e.symm)
  have ho3 : W3.heap[b]? = _:=(hgrow.block b (Aa ho2) (fun e=>hnb b e.symm rfl)).trans ho2
  have d2 : W3.cell? ⟨b,o,none⟩ = some (.slice sv.a sv.n sv.c):=by rw [Ad ho3 o]; exact hc
  have f2:=Ai ho3 o
  have hH3 : W3.heap[W.heap.size]? = _:=(hgrow.block _ (Aa hH) (fun e=>Nat.lt_irrefl _ (Ed h.own _ e.symm))).trans hH
  refine hK.out _ _ hH3 fun hH=>?_
  clear hK K
  refine tx 7 11 (pq b o) hH ?_
  refine r1 8 fun K hK=>?_
  go_simp
  refine hK.out _ _ (Ae hH (by have:=Aa ho; omega)) fun hH=>?_
  clear hK K
  refine dn ?_
  show bodyPost TryQ.prog Tryz.f300 _ Exit.normal _ _
  simp [bodyPost,results,Tryz.results300,go_sem]
  refine ⟨⟨some ⟨g,0,none⟩,S.length + 1,n⟩,Av ho3,⟨?_,by simp; omega,Nat.le_trans hst2.low (Nat.le_trans hgrow.size (by simp))⟩,?_⟩
  ·have hl1 : (S ++ [x]).length = S.length + 1:=by simp
   rw [hl1,Vi]
   have e4 : fw [x] = w4 x:=by simp [fw]
   rw [e4]
   exact Cw hown3 fun k hk=>heap_setCell_other W3 ⟨b,o,none⟩ k _ (fun e=>by
    obtain ⟨cur,hcur⟩:=Cj hown3 k hk
    exact Bc hcur ho3 (fun e=>ht e.symm) e)
  ·exact hp2.trans (((Pres.grown hgrow BaseB.lo41 hst2.own hold3).mono (fun k _ h=>by cases h) (fun t h=>h)).trans ((Pres.setCell W3 b o _).mono (fun k _ h=>h) (fun t h=>by cases h)))
 ·skip
  go_simp
  refine hK.out _ (W1.alloc (.cells (w4 x).toArray 41)) ((hb2.block _ (Aa hH)).trans hH) fun hH=>?_
  clear hK K c1
  generalize hW2 : W1.alloc (.cells (w4 x).toArray 41) = W2 at hb2 ho2 hst2 hn2 hp2 c2 hH ⊢
  refine r1 3 fun K hK=>?_
  go_simp
  refine hK.out _ _ hH fun hH=>?_
  clear hK K
  refine r1 6 fun K hK=>?_
  rw [if_pos (by rfl)]
  refine Fb W2 _ _ 222 rfl BaseB.b1 41 i z 4 32 ((Ab 222).trans Tryz.underlying222) hi hz hs hbb hzs (by omega) (.slice sv.a sv.n sv.c) S.length (fw S) rfl hst2.own ⟨zB,0,none⟩ 1 1 (w4 x) rfl rfl (fun j v hj=>by rw [Addr.add_mid]; exact hn2 j v hj) (fun v hv=>by simp only [w4,List.mem_cons,List.not_mem_nil,or_false] at hv; rcases hv with rfl | rfl | rfl | rfl <;> rfl) (by omega) (by simp only [maxLen]; omega) (by omega) hst2.low (zB + 1) (by rw [<- hW2]; simp [hzB]) ?_
  intro g n W3 hown3 hgrow hat hlt3 hold3
  have hnb : ∀ k,(Value.slice sv.a sv.n sv.c).ownBlock = some k -> k ≠ b:=fun k hk=>by
   obtain ⟨cur,hcur⟩:=Cj hst2.own k hk
   exact Bc hcur ho2 (fun e=>ht e.symm)
  have ho3 : W3.heap[b]? = _:=(hgrow.block b (Aa ho2) (fun e=>hnb b e.symm rfl)).trans ho2
  have d2 : W3.cell? ⟨b,o,none⟩ = some (.slice sv.a sv.n sv.c):=by rw [Ad ho3 o]; exact hc
  have f2:=Ai ho3 o
  have hH3 : W3.heap[W.heap.size]? = _:=(hgrow.block _ (Aa hH) (fun e=>Nat.lt_irrefl _ (Ed h.own _ e.symm))).trans hH
  refine hK.out _ _ hH3 fun hH=>?_
  clear hK K
  refine tx 7 11 (pq b o) hH ?_
  refine r1 8 fun K hK=>?_
  go_simp
  refine hK.out _ _ (Ae hH (by have:=Aa ho; omega)) fun hH=>?_
  clear hK K
  refine dn ?_
  show bodyPost TryQ.prog Tryz.f300 _ Exit.normal _ _
  simp [bodyPost,results,Tryz.results300,go_sem]
  refine ⟨⟨some ⟨g,0,none⟩,S.length + 1,n⟩,Av ho3,⟨?_,by simp; omega,Nat.le_trans hst2.low (Nat.le_trans hgrow.size (by simp))⟩,?_⟩
  ·have hl1 : (S ++ [x]).length = S.length + 1:=by simp
   rw [hl1,Vi]
   have e4 : fw [x] = w4 x:=by simp [fw]
   rw [e4]
   exact Cw hown3 fun k hk=>heap_setCell_other W3 ⟨b,o,none⟩ k _ (fun e=>by
    obtain ⟨cur,hcur⟩:=Cj hown3 k hk
    exact Bc hcur ho3 (fun e=>ht e.symm) e)
  ·exact hp2.trans (((Pres.grown hgrow BaseB.lo41 hst2.own hold3).mono (fun k _ h=>by cases h) (fun t h=>h)).trans ((Pres.setCell W3 b o _).mono (fun k _ h=>h) (fun t h=>by cases h)))
end
section
attribute [local go_sem] wd
theorem Pres.dr {B : List Nat} {T : List TypeId} {w v : World} (h : Pres B T w v) : Pres B T w v.drew:=h.trans (.of_below (Below.refl _ _).drew _ _)
theorem Cz {W : World} {sv : SV} {T : List Nat} {x : Nat} (h : Stk W sv (T ++ [x])) {b o : Nat} {c : Array Value} {t : TypeId} (ho : W.heap[b]? = ob c t) (hc : c[o]? = some (.slice sv.a sv.n sv.c)) (ht : t ≠ 41) :
  Calls TryQ.prog 296 #[pq b o] W fun e w'=>e = .returned (wd x) /\ w'.heap[b]? = ob (c.setIfInBounds o (.slice sv.a T.length sv.c)) t /\ Stk w' ⟨sv.a,T.length,sv.c⟩ T /\ Pres [b] [] W w':=by
 have hlen : (T ++ [x]).length = T.length + 1:=by simp
 have hsn:=h.n
 rw [hlen] at hsn
 have hnum:=h.num
 rw [hlen] at hnum
 have hcap : T.length <= sv.c:=by
  rcases h.own.2 with ⟨_,h2⟩ | ⟨g,cap,cur,h1,_,hg,hnc,_⟩
  ·simp at h2
  ·simp only [Value.slice.injEq] at h1; rw [hlen] at hnc; omega
 obtain ⟨g0,hga,hgl,_⟩:=h.cells (j:=T.length) (x:=x) (by simp)
 obtain ⟨sa,sn,sc⟩:=sv
 simp only at hga hsn hcap hc ⊢
 subst hga hsn
 have hi1 : ((T.length + 1 : Nat) : Int) - 1 = (T.length : Int):=by omega
 have hi2 : IntKind.i64.wrap (T.length : Int) = (T.length : Int):=IntWalk.i64_in _ ⟨by omega,by omega⟩
 have hi3 : (T.length : Int) <= (sc : Int):=by omega
 have hbx : Below W.heap.size W (W.alloc (.cells wz 41)):=ba
 have ho1:=Aw (p:=.cells wz 41) ho
 have hbl:=Aa ho
 have c1 : W.cell? ⟨b,o,none⟩ = some (.slice (some ⟨g0,0,none⟩) (T.length + 1) sc):=by rw [Ad ho o]; exact hc
 have hat:=Fg (h.below hbx) 1 (by omega) (j:=T.length) (x:=x) (by simp) (by simp)
 rw [show ((1 : Nat) : Int) = 1 from rfl] at hat
 go_enter TryQ.func296,Tryz.ntmps296
 go_wp2_with fail
 refine hat.mono ?_
 rintro e w1 ⟨rfl,hb1⟩
 clear hat c1
 have ho2:=bk hb1 ho1
 have hb02 : Below W.heap.size W w1:=hbx.trans (hb1.mono hbx.size)
 have hwl : W.heap.size < w1.heap.size:=by have:=hb1.size; simp at this; omega
 have hbl1:=Aa ho2
 have c1 : w1.cell? ⟨b,o,none⟩ = some (.slice (some ⟨g0,0,none⟩) (T.length + 1) sc):=by rw [Ad ho2 o]; exact hc
 have f1:=Ai ho2 o
 have hnr:=(hb1.block _ (Aa (Al W (.cells wz 41)))).trans (Al W (.cells wz 41))
 have hbne : b ≠ W.heap.size:=by omega
 have hbne' : W.heap.size ≠ b:=by omega
 have hsz1:=Aa ho2
 have ho3:=Aw (p:=.cells (wq x) 41) ho2
 have hnr3:=Aw (p:=.cells (wq x) 41) hnr
 have hx3:=Al w1 (.cells (wq x) 41)
 have hp3 : Pres [b] [] W (w1.alloc (.cells (wq x) 41)):=.of_below (hb02.trans (ba.mono hb02.size)) _ _
 have c3 : (w1.alloc (.cells (wq x) 41)).cell? ⟨b,o,none⟩ = some (.slice (some ⟨g0,0,none⟩) (T.length + 1) sc):=by rw [Ad ho3 o]; exact hc
 have f3:=Ai ho3 o
 go_wp2_with fail
 clear c1 f1
 change Code.wp _ _ _ _ (w1.alloc (.cells (wq x) 41))
 generalize w1.alloc (.cells (wq x) 41) = W2 at ho3 hnr3 hx3 hp3 c3 f3 ⊢
 refine Ake (fun V=>V.heap[b]? = ob (c.setIfInBounds o (.slice (some ⟨g0,0,none⟩) T.length sc)) t /\ V.heap[W.heap.size]? = ob wz 41 /\ V.heap[w1.heap.size]? = ob (wq x) 41 /\ Pres [b] [] W V) ?_
 apply Exists.intro
 apply And.intro
 ·skip
  refine rq (fun V=>True) trivial fun hH=>?_
  refine tx 0 8 (pq b o) hH ?_
  refine tx 1 9 (pq b o) hH ?_
  refine tx 2 10 (pq b o) hH ?_
  refine tx 4 12 (pq b o) hH ?_
  refine tx 5 13 (pq b o) hH ?_
  refine wpAnyH_ready (rs:=[3,6]) (by kernel_rfl) (by simp) ?_
  refine AllReadyH.cons rfl (fun K hK=>?_) (AllReadyH.cons rfl (fun K hK=>?_) AllReadyH.nil)
  ·skip
   go_simp
   refine hK.out _ _ trivial fun hH=>?_
   clear hK K
   refine r1 6 fun K hK=>?_
   go_simp
   refine hK.out _ _ trivial fun hH=>?_
   clear hK K
   refine tx 7 15 (.int .i64 ((T.length + 1 : Nat) : Int)) hH ?_
   refine tx 8 16 (.int .i64 (T.length : Int)) hH ?_
   refine tx 9 17 (.slice (some ⟨g0,0,none⟩) T.length sc) hH ?_
   refine tx 10 18 (pq b o) hH ?_
   refine r1 11 fun K hK=>?_
   go_simp
   refine hK.out _ _ trivial fun hH=>?_
   clear hK K
   refine dn ?_
   exact ⟨rfl,rfl,Av ho3,Ae hnr3 hbne',Ae hx3 (by omega),(hp3.trans (Pres.setCell _ b o _)).dr⟩
  ·skip
   go_simp
   refine hK.out _ _ trivial fun hH=>?_
   clear hK K
   refine tx 7 15 (.int .i64 ((T.length + 1 : Nat) : Int)) hH ?_
   refine tx 8 16 (.int .i64 (T.length : Int)) hH ?_
   refine r1 3 fun K hK=>?_
   go_simp
   refine hK.out _ _ trivial fun hH=>?_
   clear hK K
   refine tx 9 17 (.slice (some ⟨g0,0,none⟩) T.length sc) hH ?_
   refine tx 10 18 (pq b o) hH ?_
   refine r1 11 fun K hK=>?_
   go_simp
   refine hK.out _ _ trivial fun hH=>?_
   clear hK K
   refine dn ?_
   exact ⟨rfl,rfl,Av ho3,Ae hnr3 hbne',Ae hx3 (by omega),(hp3.trans (Pres.setCell _ b o _)).dr⟩
 ·skip
  rintro V ⟨ho4,hn4,hx4,hp4⟩
  have z0:=bq hn4 0 rfl
  have z1:=bq hn4 1 rfl
  have z2:=bq hn4 2 rfl
  have z3:=bq hn4 3 rfl
  have y0:=Ai hn4 0
  have y1:=Ai hn4 1
  have y2:=Ai hn4 2
  have y3:=Ai hn4 3
  have x0:=bq hx4 0 rfl
  have x1:=bq hx4 1 rfl
  have x2:=bq hx4 2 rfl
  have x3:=bq hx4 3 rfl
  go_wp2
  have hn5:=Cx (.int .u64 (lim x 0)) (.int .u64 (lim x 1)) (.int .u64 (lim x 2)) (.int .u64 (lim x 3)) hn4
  have hp5:=Ei V W.heap.size (.int .u64 (lim x 0)) (.int .u64 (lim x 1)) (.int .u64 (lim x 2)) (.int .u64 (lim x 3))
  generalize (((V.setCell ⟨W.heap.size,0,none⟩ (.int .u64 (lim x 0))).setCell ⟨W.heap.size,1,none⟩ (.int .u64 (lim x 1))).setCell ⟨W.heap.size,2,none⟩ (.int .u64 (lim x 2))).setCell ⟨W.heap.size,3,none⟩ (.int .u64 (lim x 3)) = V5 at hn5 hp5 ⊢
  clear z0 z1 z2 z3 y0 y1 y2 y3 x0 x1 x2 x3
  have z0:=Ad hn5 0
  have z1:=Ad hn5 1
  have z2:=Ad hn5 2
  have z3:=Ad hn5 3
  simp at z0 z1 z2 z3
  simp [bodyPost,results,Tryz.results296,go_sem,z0,z1,z2,z3]
  have hpA : Pres [b] [] W V5:=⟨hp5.os.trans hp4.os,hp5.tape.trans hp4.tape,hp5.output.trans hp4.output,Nat.le_trans hp4.size hp5.size,fun k hk hn=>?_⟩
  ·refine ⟨?_,?_,hpA⟩
   ·exact (hp5.obj ho4 (by show t ∉ []; simp) (by simpa using hbne))
   ·have hpre : W.ownsRow BaseB.b1 41 4 (.slice (some ⟨g0,0,none⟩) T.length sc) T.length (fw T):=Vo (m:=1) (by have h0:=h.own; rw [hlen,Vi] at h0; exact h0) (Ahm T)
    exact ⟨Cw hpre fun k hk=>by
     obtain ⟨cur,hcur⟩:=Cj hpre k hk
     refine (hpA.obj hcur (by show (41 : Nat) ∉ []; simp) ?_).trans hcur.symm
     simp only [List.mem_singleton]
     exact Bc hcur ho (fun e=>ht e.symm),by omega,Nat.le_trans h.low hpA.size⟩
  ·rcases hp4.block k hk hn with e | ⟨t,c,c2,ht,_⟩
   ·refine .inl (Eq.trans ?_ e)
    rcases hp5.block k (Nat.lt_of_lt_of_le hk hp4.size) (by simp; omega) with e5 | ⟨t,c,c2,ht,_⟩
    ·exact e5
    ·cases ht
   ·cases ht
end
section
attribute [local go_sem] wd
structure Frm where
 m : Nat
 bl : Int
 bg : Int
 bb : Int
 text : ByteArray
 mark : SV
 self : Int
 caller : Int
 val : Nat
 data : SV
 gas : Int
 place : Int
 next : Int
def frC (F : Frm) (sv : SV) : Array Value:=#[pq F.m 0,.int .i64 F.bl,.int .i64 F.bg,.int .i64 F.bb,.string F.text,.slice F.mark.a F.mark.n F.mark.c,.int .i64 F.self,.int .i64 F.caller,.int .u64 (lim F.val 0),.int .u64 (lim F.val 1),.int .u64 (lim F.val 2),.int .u64 (lim F.val 3),.slice F.data.a F.data.n F.data.c,.int .i64 F.gas,.slice sv.a sv.n sv.c,.slice none 0 0,.int .i64 F.place,.int .i64 F.next]
theorem Adl (F : Frm) (sv : SV) (x : Int) : (frC F sv).setIfInBounds 13 (.int .i64 x) = frC { F with gas:=x } sv:=rfl
theorem Yk (F : Frm) (sv : SV) (x : Int) : (frC F sv).setIfInBounds 17 (.int .i64 x) = frC { F with next:=x } sv:=rfl
theorem Tf (f : Nat) (w : World) : Calls TryQ.prog 291 #[pq f 0,.int .u8 0] w fun e w'=>e = .returned (.tuple #[.int .i64 0,.nilIface]) /\ w' = w:=by
 go_enter TryQ.func291,Tryz.ntmps291
 go_wp2
 simp [bodyPost,results,Tryz.results291,go_sem]
theorem Adn (f : Nat) (w : World) : Calls TryQ.prog 292 #[pq f 0,.int .u8 0] w fun e w'=>e = .returned (.int .i64 0) /\ w' = w:=by
 go_enter TryQ.func292,Tryz.ntmps292
 go_wp2
 go_ret
 exact ⟨rfl,rfl⟩
theorem Ad2 (f : Nat) (w : World) : Calls TryQ.prog 291 #[pq f 0,.int .u8 1] w fun e w'=>e = .returned (.tuple #[.int .i64 0,.nilIface]) /\ w' = w:=by
 go_enter TryQ.func291,Tryz.ntmps291
 go_wp2
 simp [bodyPost,results,Tryz.results291,go_sem]
theorem Ama (f : Nat) (w : World) : Calls TryQ.prog 292 #[pq f 0,.int .u8 1] w fun e w'=>e = .returned (.int .i64 0) /\ w' = w:=by
 go_enter TryQ.func292,Tryz.ntmps292
 go_wp2
 go_ret
 exact ⟨rfl,rfl⟩
theorem Aap (f : Nat) (w : World) : Calls TryQ.prog 291 #[pq f 0,.int .u8 98] w fun e w'=>e = .returned (.tuple #[.int .i64 0,.nilIface]) /\ w' = w:=by
 go_enter TryQ.func291,Tryz.ntmps291
 go_wp2
 simp [bodyPost,results,Tryz.results291,go_sem]
theorem Ajp (f : Nat) (w : World) : Calls TryQ.prog 292 #[pq f 0,.int .u8 98] w fun e w'=>e = .returned (.int .i64 0) /\ w' = w:=by
 go_enter TryQ.func292,Tryz.ntmps292
 go_wp2
 go_ret
 exact ⟨rfl,rfl⟩
theorem Ads (w : World) : Calls TryQ.prog 293 #[.slice none 0 0,.int .i64 0] w fun e w'=>e = .returned (.int .i64 0) /\ w' = w:=by
 go_enter TryQ.func293,Tryz.ntmps293
 go_wp2
 go_ret
 exact ⟨rfl,rfl⟩
theorem Ani (w : World) : Calls TryQ.prog 325 #[.int .i64 0] w fun e w'=>e = .returned (.int .i64 0) /\ w' = w:=by
 go_enter TryQ.func325,Tryz.ntmps325
 go_wp2
 go_ret
 exact ⟨rfl,rfl⟩
theorem Adi {W : World} {f o : Nat} {c : Array Value} {t : TypeId} (ho : W.heap[f]? = ob c t) (hc : c[o]? = some (.slice none 0 0)) :
  Calls TryQ.prog 294 #[pq f o,.int .i64 0] W fun e w'=>e = .returned (.tuple #[]) /\ Below W.heap.size W w':=by
 have hw0 : IntKind.i64.wrap 0 = 0:=by decide
 go_enter TryQ.func294,Tryz.ntmps294
 go_wp2_with fail
 refine rq (fun V=>V.heap[f]? = ob c t) ho fun hH=>?_
 refine tx 0 5 (.int .i64 0) hH ?_
 refine tx 3 8 (pq f o) hH ?_
 refine tx 4 9 (pq f o) hH ?_
 refine td (i:=5) (d:=some 10) (v:=.slice none 0 0) rfl rfl (fun V hW=>?_) hH ?_
 ·have k0 : V.cell? ⟨f,o,none⟩ = some (.slice none 0 0):=by rw [Ad hW o]; exact hc
  clear hW hH
  go_simp
 refine tx 6 11 (.int .i64 0) hH ?_
 refine r1 1 fun K hK=>?_
 go_simp
 refine (Ani _).mono ?_
 rintro e W1 ⟨rfl,hw⟩
 subst hw
 go_wp2_with fail
 refine hK.out _ _ hH fun hH=>?_
 clear hK K
 refine tx 2 7 (.int .i64 0) hH ?_
 refine tx 7 12 (.int .i64 0) hH ?_
 refine tx 8 4 (.int .i64 0) hH ?_
 refine dn ?_
 go_wp2
 simp [bodyPost,results,Tryz.results294,go_sem]
 exact (Below.refl _ _).drew
theorem Ul {W : World} {f : Nat} {F : Frm} {sv : SV} (hf : W.heap[f]? = ob (frC F sv) 225) (hp : (F.text.size : Int) <= F.place) :
  Calls TryQ.prog 261 #[pq f 0] W fun e w'=>e = .returned (.int .u8 0) /\ Below W.heap.size W w':=by
 go_enter TryQ.func261,Tryz.ntmps261
 go_wp2_with fail
 refine rq (fun V=>V.heap[f]? = ob (frC F sv) 225) hf fun hH=>?_
 refine tx 0 3 (pq f 0) hH ?_
 refine tx 1 4 (pq f 0) hH ?_
 refine tx 2 5 (pq f 16) hH ?_
 refine tv 3 6 (.int .i64 F.place) (fun _ hW=>bq hW 16 rfl) hH ?_
 refine tx 4 7 (pq f 0) hH ?_
 refine tx 5 8 (pq f 0) hH ?_
 refine tx 6 9 (pq f 4) hH ?_
 refine tv 7 10 (.string F.text) (fun _ hW=>bq hW 4 rfl) hH ?_
 refine tx 8 11 (.int .i64 (F.text.size : Int)) hH ?_
 refine tx 9 12 (.bool (decide (F.place ≥ (F.text.size : Int)))) hH ?_
 refine dn ?_
 go_wp2
 go_ret
 exact ⟨rfl,(Below.refl _ _).drew⟩
theorem Yh {W : World} {f : Nat} {F : Frm} {sv : SV} (hf : W.heap[f]? = ob (frC F sv) 225) (p : Nat) (hpl : F.place = (p : Int)) (x : UInt8) (hx : F.text.data[p]? = some x) :
  Calls TryQ.prog 261 #[pq f 0] W fun e w'=>e = .returned (.int .u8 (x.toNat : Int)) /\ Below W.heap.size W w':=by
 have hps : p < F.text.size:=(Array.getElem?_eq_some_iff.1 hx).1
 have hp : ¬ (F.text.size : Int) <= F.place:=by omega
 go_enter TryQ.func261,Tryz.ntmps261
 go_wp2_with fail
 refine rq (fun V=>V.heap[f]? = ob (frC F sv) 225) hf fun hH=>?_
 refine tx 0 3 (pq f 0) hH ?_
 refine tx 1 4 (pq f 0) hH ?_
 refine tx 2 5 (pq f 16) hH ?_
 refine tv 3 6 (.int .i64 F.place) (fun _ hW=>bq hW 16 rfl) hH ?_
 refine tx 4 7 (pq f 0) hH ?_
 refine tx 5 8 (pq f 0) hH ?_
 refine tx 6 9 (pq f 4) hH ?_
 refine tv 7 10 (.string F.text) (fun _ hW=>bq hW 4 rfl) hH ?_
 refine tx 8 11 (.int .i64 (F.text.size : Int)) hH ?_
 refine tx 9 12 (.bool (decide (F.place ≥ (F.text.size : Int)))) hH ?_
 refine dn ?_
 go_wp2_with fail
 refine rq (fun V=>V.heap[f]? = ob (frC F sv) 225) hf fun hH=>?_
 refine tx 0 13 (pq f 0) hH ?_
 refine tx 1 14 (pq f 0) hH ?_
 refine tx 2 15 (pq f 4) hH ?_
 refine tv 3 16 (.string F.text) (fun _ hW=>bq hW 4 rfl) hH ?_
 refine tx 4 17 (pq f 0) hH ?_
 refine tx 5 18 (pq f 0) hH ?_
 refine tx 6 19 (pq f 16) hH ?_
 refine td (i:=7) (d:=some 20) (v:=.int .i64 (p : Int)) rfl rfl (fun V hW=>?_) hH ?_
 ·have k0:=bq hW 16 rfl
  rw [hpl] at k0
  clear hW hH
  go_simp
 refine td (i:=8) (d:=some 21) (v:=.int .u8 (x.toNat : Int)) rfl rfl (fun V hW=>?_) hH ?_
 ·clear hW hH
  have hx' : F.text[p] = x:=(Array.getElem?_eq_some_iff.1 hx).2
  go_simp
 refine tx 9 2 (.int .u8 (x.toNat : Int)) hH ?_
 refine dn ?_
 go_wp2
 go_ret
 exact ⟨rfl,(Below.refl _ _).drew.drew⟩
end
end Go.Mark
namespace Go.Mark
open Go.RowKit Go.Proofs
theorem tu {P : Program} {ops : Array Oper} {Q : Exit -> Act -> World -> Prop} {md : Region.Mode} {S : World -> Prop} {i : Nat} {oi : Oper} {d : Option Tmp} {fuel : Nat} {listed : Array Bool} {a a' : Act} {w : World} (hi : ops[i]? = some oi) (hd : oi.dst = d) (hS : S w) (h : wpAnyH P md ops Q S fuel (listed.setIfInBounds i true) a' w)
    (hs : Region.noSelect ops = true:=by kernel_rfl) (hf : Region.free md ops listed i = true:=by kernel_rfl) (hr : (Region.ready md ops listed).contains i = true:=by kernel_rfl)
    (hQ : ∀ c a w,Q (.panic c) (a.put oi.dst ud) w -> Q (.panic c) a w:=by intro _ _ _ h; first | exact h | cases h.1) (hw : Region.wanted oi (yielded ops a.tmps) = false:=by rfl) (hp : a.put d ud = a':=by (simp only [Act.put,List.setIfInBounds_toArray,List.set_cons_zero,List.set_cons_succ]; try rfl)) : wpAnyH P md ops Q S (fuel + 1) listed a w:=by
  subst hp
  exact U7 hi hd hs hf hr hQ (Or.inr ⟨hw,rfl⟩) hS h
theorem wg {P : Program} {c : Code} {Q : Exit -> Act -> World -> Prop} {a : Act} {w : World} (R : World -> Prop) (hR : R w) (h : ∀ V,R V -> c.wp P Q a V) : c.wp P Q a w:=h w hR
theorem rg {P : Program} {c : Code} {Q : Exit -> Act -> World -> Prop} {n : Nat} {a : Act} {w : World} (R : World -> Prop) (hR : R w) (h : ∀ V,R V -> Code.rounds P c Q n a V) : Code.rounds P c Q n a w:=h w hR
end Go.Mark
