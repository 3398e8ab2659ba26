import Derived.Test.YtbephahokhnccaaGreatDoorXL15toL18
import Derived.Test.YtbephahokhnccaaGreatDoorXK43toK47
set_option linter.unusedSectionVars false
set_option maxRecDepth 100000
set_option maxHeartbeats 8000000
namespace Go.Mark
open Go.RowKit Go.Proofs
variable [BaseB]
section
theorem Vp {W : World} {b e s : Nat} {lg : SV} {N : Nat} {xs : List Value} (h : W.ownsRow b e s (.slice lg.a lg.n lg.c) N xs) : lg.n = N /\ lg.n <= lg.c:=by
  obtain ⟨x,y,z⟩:=lg
  rcases h.2 with ⟨h1,h2⟩ | ⟨g,cap,cur,h1,_,_,h2,_⟩
  · cases h1; exact ⟨h2.symm,Nat.le_refl _⟩
  · cases h1; exact ⟨rfl,h2⟩
theorem Alb {W : World} {b e s : Nat} {lg : SV} {N : Nat} {xs : List Value} (h : W.ownsRow b e s (.slice lg.a lg.n lg.c) N xs) : W.ownsRow b e s (.slice lg.a 0 lg.c) 0 []:=by
  obtain ⟨x,y,z⟩:=lg
  refine ⟨by simp,?_⟩
  rcases h.2 with ⟨h1,h2⟩ | ⟨g,cap,cur,h1,h2,h3,h4,h5,h6,_⟩
  · cases h1; exact .inl ⟨rfl,rfl⟩
  · cases h1; exact .inr ⟨g,_,cur,rfl,h2,h3,Nat.zero_le _,h5,h6,by simp⟩
theorem Lj {l : Nat} {x y : SV} {b b' d d' : Int} {W : World} {mc : Nat} (h1 : W.heap[mc]? = ob (Aj l x b d) 165) (h2 : W.heap[mc]? = ob (Aj l y b' d') 165) : x = y /\ b = b':=by
  rw [h1] at h2
  simp only [Aj,Option.some.injEq,Obj.cells.injEq,Array.mk.injEq,List.cons.injEq,Value.slice.injEq,Value.int.injEq,true_and,and_true] at h2
  obtain ⟨x1,x2,x3⟩:=x
  obtain ⟨y1,y2,y3⟩:=y
  simp_all
section
variable {B : List Nat} {W0 W W' : World} {mc l m f n : Nat} {dm : Dm} {cr : Int} {L : AL} {J : List Value} {lg sv : SV} {back depth g : Int} {N : Nat} {xs : List Value} {a d li ni : Addr} {F : Frm}
theorem Md.mcs {lg' : SV} {b' d' : Int} (h : Md B W0 W mc l m dm cr L J lg back depth N xs a d li ni) (hp : Pres [mc] [] W W') (hm : W'.heap[mc]? = ob (Aj l lg' b' d') 165) (hB : mc ∈ B) (hb : BaseB.b0 <= mc) {N' : Nat} {xs' : List Value} (ho : W.ownsRow BaseB.b0 95 6 (.slice lg'.a lg'.n lg'.c) N' xs') : Md B W0 W' mc l m dm cr L J lg' b' d' N' xs' a d li ni :=
  ⟨h.ld.kp1 hp h.mc (by simp) (by decide),hm,Ta ho hp (by simp) (fun k hk c hc=>by
    obtain rfl : k = mc:=by simpa using hk
    rw [h.mc] at hc
    cases hc),h.gb.pres hp (fun k hk=>by
    obtain rfl : k = mc:=by simpa using hk
    exact hb),h.pr.trans (hp.mono (fun k _ hk=>by simp at hk; rw [hk]; exact hB) (fun t ht=>by cases ht))⟩
def U6 (B : List Nat) (W0 : World) (mc l m : Nat) (dm : Dm) (cr : Int) (L : AL) (J : List Value) (Lw : AL) (Jw : List Value) (back depth : Int) (a d li ni : Addr) (self g : Int) (last : UInt8) (v : Value) (w : World) : Prop :=
  (20390 <= g /\ last = 0 /\ v = .iface 174 (.agg #[.int .i64 (g - 20390),.string ⟨#[]⟩]) /\ ∃ lg',Md B W0 w mc l m dm cr Lw Jw lg' back depth 1 (Ej self 7) a d li ni) \/
  ((g < 20390 \/ last = 255) /\ ∃ gb fb e,(e = a \/ e = ni) /\ v = .iface 217 (.agg #[.int .i64 gb,.iface 299 (pq fb 0)]) /\ w.cell? ⟨fb,2,none⟩ = some (.iface 407 (.pointer (some e))) /\ fb < w.heap.size /\ ∃ lg',Md B W0 w mc l m dm cr L J lg' back depth 0 [] a d li ni)
theorem run_end {q : Int × Nat × Ac} {last : UInt8} {L0 : AL} {J0 rs : List Value} {B' : List Nat} (hM : Md B W0 W mc l m dm cr L (J0 ++ rs.reverse) lg back depth 0 [] a d li ni) (hmc : F.m = mc) (hB : f ∈ B /\ l ∈ B /\ q.2.2.ms ∈ B /\ mc ∈ B) (hB' : ∀ k ∈ B',k ∈ B /\ BaseB.b0 <= k /\ k ≠ mc /\ k < W0.heap.size /\ ∃ z ∈ L,k = z.2.1 \/ k = z.2.2.ms) (hlo : BaseB.b0 <= f /\ BaseB.b0 <= mc) (ht : F.text.data = cdC last) (hl : last = 0 \/ last = 255) (hf : W.heap[f]? = ob (frC (fr F g ((0 : Nat) : Int)) sv) 225) (hs : Stk W sv []) (hq : q ∈ L) (hself : q.1 = F.self) (hk0 : Cy q.2.2.sl 1 = 0) (hJ : (J0 ++ rs.reverse).length < 1000) (hg : 0 <= g) (hg' : g < 100000000) (hd : 0 <= depth) (hd' : depth < 100) (hlW : l < W0.heap.size)
    (hbl : F.bl = (J0.length : Int)) (hbg : F.bg = ((0 : Nat) : Int)) (hbb : F.bb = back) (hu : Und l m dm cr B' L0 rs L) (hu1 : Und l m dm cr B' L0 (D7 q.2.1 1 0 :: rs) (L1 L q)) :
    Calls TryQ.prog 139 #[pq mc 0,pq f 0] W fun e w'=>∃ t v,e = .returned (.iface t v) /\ Calls TryQ.prog 137 #[pq mc 0,.iface t v] w' fun e w'=>∃ t v,e = .returned (.iface t v) /\ U6 B W0 mc l m dm cr L0 J0 (L1 L q) (J1 (J0 ++ rs.reverse) q) back depth a d li ni F.self g last (.iface t v) w':=by
 refine Calls.mono (Vr (Φ:=Ana B W0 mc l m dm cr L (J0 ++ rs.reverse) back (depth + 1) a d li ni q F g last) (n:=8) hM.mc hd (by omega) (fun w hw hp=>?_) (fun v w' h=>?_)) ?_
 · have hfm : f ≠ mc:=Bc hf hM.mc (by decide)
   refine Agc (hM.mcs hp hw hB.2.2.2 hlo.2 hM.ow) hmc hB hlo ht hl (hp.obj hf (by show (225 : Nat) ∉ []; simp) (by simpa using hfm)) (hs.kp hp (by simp) (fun k hk c hc=>by
     obtain rfl : k = mc:=by simpa using hk
     rw [hM.mc] at hc
     cases hc)) hq hself hk0 hJ hg hg'
 · rcases h with ⟨_,_,_,lg',_,h⟩ | ⟨_,_,_,_,_,_,_,_,_,lg',_,_,h | h⟩ <;> exact ⟨_,_,h.mc⟩
 · rintro e w' ⟨t,v,w2,lg2,back2,rfl,hΦ,hm2,hm',hp'⟩
   refine ⟨t,v,rfl,?_⟩
   rcases hΦ with ⟨h1,h2,h3,lg',hn,M⟩ | ⟨h1,gb,pl,fb,e,he,h3,h4,h5,lg',N',xs',hM2⟩
   · cases h3
     have hh:=Lj hm2 M.mc
     rw [hh.1,hh.2] at hm'
     refine (Hr mc _ w').mono ?_
     rintro e w'' ⟨rfl,rfl⟩
     exact ⟨_,_,rfl,.inl ⟨h1,h2,rfl,_,M.mcs hp' hm' hB.2.2.2 hlo.2 M.ow⟩⟩
   · cases h3
     have key : ∀ {LL : AL} {rr : List Value},Md B W0 w2 mc l m dm cr LL (J0 ++ rr.reverse) lg' back (depth + 1) N' xs' a d li ni -> Und l m dm cr B' L0 rr LL -> (∀ k ∈ B',∃ z ∈ LL,k = z.2.1 \/ k = z.2.2.ms) -> (J0 ++ rr.reverse).length < 2000 -> Calls TryQ.prog 137 #[pq mc 0,.iface 217 (.agg #[.int .i64 gb,.iface 299 (pq fb 0)])] w' fun e w'=>∃ t v,e = .returned (.iface t v) /\ U6 B W0 mc l m dm cr L0 J0 (L1 L q) (J1 (J0 ++ rs.reverse) q) back depth a d li ni F.self g last (.iface t v) w':=fun {LL rr} M hU hkB hJJ=>by
      have hh:=Lj hm2 M.mc
      rw [hh.1,hh.2] at hm'
      have M':=M.mcs hp' hm' hB.2.2.2 hlo.2 M.ow
      have hfm : fb ≠ mc:=Bc h4 hm2 (by decide)
      have h4' : w'.heap[fb]? = _:=hp'.obj h4 (by show (303 : Nat) ∉ []; simp) (by simpa using hfm)
      refine Calls.mono (Xe (Φ:=fun w=>w.cell? ⟨fb,2,none⟩ = some (.iface 407 (.pointer (some e))) /\ fb < w.heap.size /\ ∃ lg',Md B W0 w mc l m dm cr L0 J0 lg' back depth 0 [] a d li ni) (fun w hw=>?_)) ?_
      · have Mw:=M'.below hw
        have hfw:=(hw.block _ (Aa h4')).trans h4'
        rw [hbl,hbg,hbb] at hfw
        have hcap:=Vp Mw.ow
        refine Calls.mono (Akj (Φ:=fun u=>∃ x,LG u l m dm cr L0 J0 /\ Below w.heap.size w x /\ Pres (l :: B') [] x u) Mw.mc hfw Mw.gb.et (Nat.zero_le _) hcap.2 (fun x hx=>?_)) ?_
        · refine (Ahr (Mw.ld.below hx) (by omega) hU).mono ?_
          rintro e w4 ⟨rfl,h6,h7⟩
          have hsz:=Nat.le_trans M'.pr.size hw.size
          refine ⟨rfl,⟨x,h6,hx,h7⟩,l :: B',h7.mono (fun k _ h=>h) (fun t h=>by cases h),?_,?_,?_⟩
          · intro hm3
            rcases List.mem_cons.1 hm3 with e2 | e2
            · obtain ⟨jv,ho,_⟩:=Mw.ld.lj.ex
              exact Bc Mw.mc ho (by decide) e2
            · exact (hB' _ e2).2.2.1 rfl
          · intro hm3
            rcases List.mem_cons.1 hm3 with e2 | e2
            · obtain ⟨jv,ho,_⟩:=Mw.ld.lj.ex
              exact Bc hfw ho (by decide) e2
            · have:=(hB' _ e2).2.2.2.1; omega
          · intro hm3
            rcases List.mem_cons.1 hm3 with e2 | e2
            · omega
            · have:=(hB' _ e2).2.2.2.1; omega
        · rintro e w5 ⟨rfl,u,⟨x,h6,hx,h7⟩,h8,h9⟩
          refine ⟨rfl,?_⟩
          have hpu : Pres (l :: B') [] w u:=(Pres.of_below hx _ _).trans h7
          have hBB : ∀ k ∈ l :: B',k ∈ B /\ BaseB.b0 <= k:=fun k hk=>by
           rcases List.mem_cons.1 hk with rfl | e2
           · exact ⟨hB.2.1,Mw.ld.lj.lo⟩
           · exact ⟨(hB' _ e2).1,(hB' _ e2).2.1⟩
          have hfl : fb ∉ l :: B':=fun hm3=>by
           rcases List.mem_cons.1 hm3 with e2 | e2
           · obtain ⟨jv,ho,_⟩:=Mw.ld.lj.ex
             exact Bc hfw ho (by decide) e2
           · have:=(hB' _ e2).2.2.2.1
             omega
          have hml : mc ∉ l :: B':=fun hm3=>by
           rcases List.mem_cons.1 hm3 with e2 | e2
           · obtain ⟨jv,ho,_⟩:=Mw.ld.lj.ex
             exact Bc Mw.mc ho (by decide) e2
           · exact (hB' _ e2).2.2.1 rfl
          have hfu : u.heap[fb]? = _:=hpu.obj hfw (by show (303 : Nat) ∉ []; simp) hfl
          have hf5 : w5.heap[fb]? = _:=h9.obj hfu (by show (303 : Nat) ∉ []; simp) (by simpa using hfm)
          have hmu : u.heap[mc]? = _:=hpu.obj Mw.mc (by show (165 : Nat) ∉ []; simp) hml
          have hou:=Ta Mw.ow hpu (by simp) (fun k hk c hc=>by
           rcases List.mem_cons.1 hk with e2 | e2
           · obtain ⟨jv,ho,_⟩:=Mw.ld.lj.ex
             rw [e2,ho] at hc
             cases hc
           · obtain ⟨z,hz,rfl | rfl⟩:=hkB _ e2
             · rw [Mw.ld.acc z hz] at hc
               cases hc
             · obtain ⟨es,ec,hmo,_⟩:=Mw.ld.slot z hz
               rw [hmo] at hc
               cases hc)
          have Mu : Md B W0 u mc l m dm cr L0 J0 lg' back depth N' xs' a d li ni:=⟨h6,hmu,hou,Mw.gb.pres hpu (fun k hk=>(hBB k hk).2),Mw.pr.trans (hpu.mono (fun k _ hk=>(hBB k hk).1) (fun t h=>by cases h))⟩
          exact ⟨(Ad hf5 2).trans rfl,Aa hf5,⟨lg'.a,0,lg'.c⟩,Mu.mcs h9 h8 hB.2.2.2 hlo.2 (Alb (lg:=lg') hou)⟩
      · rintro e2 w5 ⟨rfl,h6⟩
        exact ⟨_,_,rfl,.inr ⟨h1,gb,fb,e,he,rfl,h6.1,h6.2.1,h6.2.2⟩⟩
     rcases hM2 with M | M
     · exact key M hu (fun k hk=>(hB' k hk).2.2.2.2) (by omega)
     · refine key (rr:=D7 q.2.1 1 0 :: rs) (by simpa [J1] using M) hu1 (fun k hk=>?_) (by simp at hJ ⊢; omega)
       obtain ⟨z,hz,hzk⟩:=(hB' k hk).2.2.2.2
       by_cases e2 : z.2.1 = q.2.1
       · obtain rfl:=Hz hM.ld.ndb hz hq e2
         exact ⟨_,Fx hz _,hzk⟩
       · exact ⟨z,Ev hz e2 _,hzk⟩
end
end
section
attribute [local go_sem] wd
theorem mW (v : Value) (w : World) : (Go.method 543 174 v "Left").run TryQ.prog w = .ok (366,v) w:=by kernel_rfl
theorem mB (v : Value) (w : World) : (Go.method 543 217 v "Left").run TryQ.prog w = .ok (370,v) w:=by kernel_rfl
theorem wd0 : wd 0 = .agg wz:=by simp [wd,lim]
theorem Ary (w : World) : (Builtin.copy_ #[31,9] 3 #[.slice none 0 0,.string ⟨#[]⟩]).run TryQ.prog w = .ok (.int .i64 0) w:=by
 have hzs : ∀ w,(Go.sizeOf 5).run TryQ.prog w = .ok 1 w:=fun w=>(Ag 5 w).trans (Tryz.sizeOf5 w)
 unfold Builtin.copy_
 simp [run_underlying ((Ab 31).trans Tryz.underlying31),Builtin.lenOf,Builtin.firstCells,hzs,goInt]
theorem Amv (n : Nat) (hn : n < 100) (W : World) : Calls TryQ.prog 341 #[.int .i64 (n : Int)] W fun e w'=>e = .returned (wd n) /\ Below W.heap.size W w':=by
 rw [Hu n (by omega)]
 have w1 : IntKind.u64.wrap (n : Int) = (n : Int):=IntWalk.u64_in _ (by omega)
 go_enter TryQ.func341,Tryz.ntmps341
 go_wp2
 simp [bodyPost,results,Tryz.results341,go_sem]
 exact ba
theorem Sz {W : World} {f : Nat} {F : Frm} {sv : SV} {T : List Nat} {a : Nat} {g : Int} (hf : W.heap[f]? = ob (frC F sv) 225) (hs : Stk W sv (T ++ [0,a])) (hT : T.length < 1000) (hg : 0 <= F.gas /\ 0 <= g /\ F.gas + g < 1000000000) :
    Calls TryQ.prog 342 #[pq f 0,.iface 174 (.agg #[.int .i64 g,.string ⟨#[]⟩])] W fun e w'=>∃ sv',e = .returned (.tuple #[]) /\ w'.heap[f]? = ob (frC { F with gas:=F.gas + g } sv') 225 /\ Stk w' sv' (T ++ [1]) /\ Pres [f] [41] W w':=by
 have ht:=Ef hf hs
 have hwg : IntKind.i64.wrap (F.gas + g) = F.gas + g:=IntWalk.i64_in _ ⟨by omega,by omega⟩
 have hta:=Amr
 have hcp:=Ary
 go_enter TryQ.func342,Tryz.ntmps342
 go_wp2_with fail
 refine ht.mono ?_
 rintro e W1 ⟨sv1,rfl,hf1,hs1,hp1⟩
 clear ht
 go_wp2_with fail
 refine sk (S:=fun V=>V.cell? ⟨f,13,none⟩ = some (.int .i64 F.gas)) 9 (by kernel_rfl) ((Ad hf1 13).trans rfl) fun hH=>?_
 refine tk (i:=0) (d:=some 9) (v:=pq f 0) rfl rfl (fun V hW=>?_) hH ?_
 ·clear hW hH
  go_simp
 refine tk (i:=1) (d:=some 10) (v:=pq f 0) rfl rfl (fun V hW=>?_) hH ?_
 ·clear hW hH
  go_simp
 refine tk (i:=2) (d:=some 11) (v:=pq f 13) rfl rfl (fun V hW=>?_) hH ?_
 ·clear hW hH
  go_simp
 refine tk (i:=3) (d:=some 12) (v:=.int .i64 F.gas) rfl rfl (fun V hW=>?_) hH ?_
 ·have k0:=hW
  clear hW hH
  go_simp
 refine tk (i:=4) (d:=some 13) (v:=.iface 174 (.agg #[.int .i64 g,.string ⟨#[]⟩])) rfl rfl (fun V hW=>?_) hH ?_
 ·clear hW hH
  go_simp
 refine rk (i:=5) rfl fun K hK=>?_
 have hmm:=mW
 go_simp
 clear hmm
 refine (Jf g ⟨#[]⟩ W1.drew).mono ?_
 rintro e W2 ⟨rfl,hb2⟩
 go_wp2_with fail
 refine hK.out _ _ ((hb2.cell (p:=⟨f,13,none⟩) (Aa (w:=W1.drew) hf1)).trans hH) fun hH=>?_
 clear hK K
 refine tk (i:=6) (d:=some 15) (v:=.int .i64 (F.gas + g)) rfl rfl (fun V hW=>?_) hH ?_
 ·clear hW hH
  go_simp
 refine rk (i:=7) rfl fun K hK=>?_
 go_simp
 refine hK.out _ _ hH fun hH=>?_
 clear hK K
 refine tk (i:=8) (d:=some 17) (v:=pq f 13) rfl rfl (fun V hW=>?_) hH ?_
 ·clear hW hH
  go_simp
 have hf2:=(hb2.block _ (Aa (w:=W1.drew) hf1)).trans hf1
 have c13:=bq hf2 13 rfl
 have f13:=Ai hf2 13
 refine rl rfl fun K hK=>?_
 go_simp
 refine hK.out _ _ ?_
 clear hK K
 refine dk (by kernel_rfl) ?_ _
 have hf3 : (W2.setCell ⟨f,13,none⟩ (.int .i64 (F.gas + g))).heap[f]? = ob (frC { F with gas:=F.gas + g } sv1) 225:=Av (i:=13) hf2
 have hp3 : Pres [f] [] W (W2.setCell ⟨f,13,none⟩ (.int .i64 (F.gas + g))):=(hp1.dr.trans (.of_below hb2 _ _)).trans (Pres.setCell W2 f 13 _)
 have hs3 : Stk (W2.setCell ⟨f,13,none⟩ (.int .i64 (F.gas + g))) sv1 T:=((hs1.below (Below.refl _ _).drew).below hb2).kp (Pres.setCell W2 f 13 _) (by simp) (fun k hk c hc=>by
  obtain rfl : k = f:=by simpa using hk
  rw [hf2] at hc
  cases hc)
 clear c13 f13
 generalize (W2.setCell ⟨f,13,none⟩ (.int .i64 (F.gas + g))) = W3 at hf3 hp3 hs3 ⊢
 go_wp2_with fail
 refine wg (fun V=>V.heap[f]? = ob (frC { F with gas:=F.gas + g } sv1) 225 /\ Pres [f] [] W V /\ Stk V sv1 T) ⟨Aw hf3,hp3.trans (.of_below ba _ _),hs3.below ba⟩ ?_
 clear hf3 hp3 hs3
 rintro W3 ⟨hf3,hp3,hs3⟩
 refine rq (fun V=>True) trivial fun hH=>?_
 refine tx 0 31 (pq f 0) hH ?_
 refine tx 1 32 (pq f 0) hH ?_
 refine tx 2 33 (pq f 14) hH ?_
 refine r1 3 fun K hK=>?_
 go_simp
 refine (Amv 1 (by decide) _).mono ?_
 rintro e W4 ⟨rfl,hb4⟩
 go_wp2_with fail
 refine hK.out _ _ trivial fun hH=>?_
 clear hK K
 have hbA:=(Below.refl _ _).drew.trans hb4
 have hf4:=bk hbA hf3
 refine r1 4 fun K hK=>?_
 go_simp
 refine (Vb (o:=14) (hs3.below hbA) hf4 rfl (by decide) 1 (by omega)).mono ?_
 rintro e W5 ⟨sv5,rfl,hf5,hs5,hp5⟩
 go_wp2_with fail
 refine hK.out _ _ trivial fun hH=>?_
 clear hK K
 refine dn ?_
 go_wp2
 simp [bodyPost,results,Tryz.results342,go_sem]
 exact ⟨sv5,hf5,hs5,(hp3.mono (fun _ _ h=>h) (fun t h=>by cases h)).trans ((Pres.of_below hbA _ _).trans hp5)⟩
theorem Mk {W : World} {f : Nat} {F : Frm} {sv : SV} {T : List Nat} {a : Nat} {g : Int} {v : Value} (hl : ∀ w,Pres [f] [] W w -> Calls TryQ.prog 370 #[v] w fun e w'=>e = .returned (.int .i64 g) /\ Below w.heap.size w w') (hf : W.heap[f]? = ob (frC F sv) 225) (hs : Stk W sv (T ++ [0,a])) (hT : T.length < 1000) (hg : 0 <= F.gas /\ 0 <= g /\ F.gas + g < 1000000000) :
    Calls TryQ.prog 342 #[pq f 0,.iface 217 v] W fun e w'=>∃ sv',e = .returned (.tuple #[]) /\ w'.heap[f]? = ob (frC { F with gas:=F.gas + g } sv') 225 /\ Stk w' sv' (T ++ [0]) /\ Pres [f] [41] W w':=by
 have ht:=Ef hf hs
 have hwg : IntKind.i64.wrap (F.gas + g) = F.gas + g:=IntWalk.i64_in _ ⟨by omega,by omega⟩
 have hta:=Ad8
 go_enter TryQ.func342,Tryz.ntmps342
 go_wp2_with fail
 refine ht.mono ?_
 rintro e W1 ⟨sv1,rfl,hf1,hs1,hp1⟩
 clear ht
 go_wp2_with fail
 refine sk (S:=fun V=>V.cell? ⟨f,13,none⟩ = some (.int .i64 F.gas)) 9 (by kernel_rfl) ((Ad hf1 13).trans rfl) fun hH=>?_
 refine tk (i:=0) (d:=some 9) (v:=pq f 0) rfl rfl (fun V hW=>?_) hH ?_
 ·clear hW hH
  go_simp
 refine tk (i:=1) (d:=some 10) (v:=pq f 0) rfl rfl (fun V hW=>?_) hH ?_
 ·clear hW hH
  go_simp
 refine tk (i:=2) (d:=some 11) (v:=pq f 13) rfl rfl (fun V hW=>?_) hH ?_
 ·clear hW hH
  go_simp
 refine tk (i:=3) (d:=some 12) (v:=.int .i64 F.gas) rfl rfl (fun V hW=>?_) hH ?_
 ·have k0:=hW
  clear hW hH
  go_simp
 refine tk (i:=4) (d:=some 13) (v:=.iface 217 v) rfl rfl (fun V hW=>?_) hH ?_
 ·clear hW hH
  go_simp
 refine rk (i:=5) rfl fun K hK=>?_
 have hmm:=mB
 go_simp
 clear hmm
 refine (hl W1.drew hp1.dr).mono ?_
 rintro e W2 ⟨rfl,hb2⟩
 go_wp2_with fail
 refine hK.out _ _ ((hb2.cell (p:=⟨f,13,none⟩) (Aa (w:=W1.drew) hf1)).trans hH) fun hH=>?_
 clear hK K
 refine tk (i:=6) (d:=some 15) (v:=.int .i64 (F.gas + g)) rfl rfl (fun V hW=>?_) hH ?_
 ·clear hW hH
  go_simp
 refine rk (i:=7) rfl fun K hK=>?_
 go_simp
 refine hK.out _ _ hH fun hH=>?_
 clear hK K
 refine tk (i:=8) (d:=some 17) (v:=pq f 13) rfl rfl (fun V hW=>?_) hH ?_
 ·clear hW hH
  go_simp
 have hf2:=(hb2.block _ (Aa (w:=W1.drew) hf1)).trans hf1
 have c13:=bq hf2 13 rfl
 have f13:=Ai hf2 13
 refine rl rfl fun K hK=>?_
 go_simp
 refine hK.out _ _ ?_
 clear hK K
 refine dk (by kernel_rfl) ?_ _
 have hf3 : (W2.setCell ⟨f,13,none⟩ (.int .i64 (F.gas + g))).heap[f]? = ob (frC { F with gas:=F.gas + g } sv1) 225:=Av (i:=13) hf2
 have hp3 : Pres [f] [] W (W2.setCell ⟨f,13,none⟩ (.int .i64 (F.gas + g))):=(hp1.dr.trans (.of_below hb2 _ _)).trans (Pres.setCell W2 f 13 _)
 have hs3 : Stk (W2.setCell ⟨f,13,none⟩ (.int .i64 (F.gas + g))) sv1 T:=((hs1.below (Below.refl _ _).drew).below hb2).kp (Pres.setCell W2 f 13 _) (by simp) (fun k hk c hc=>by
  obtain rfl : k = f:=by simpa using hk
  rw [hf2] at hc
  cases hc)
 clear c13 f13
 generalize (W2.setCell ⟨f,13,none⟩ (.int .i64 (F.gas + g))) = W3 at hf3 hp3 hs3 ⊢
 go_wp2_with fail
 refine rq (fun V=>True) trivial fun hH=>?_
 refine tx 0 19 (pq f 0) hH ?_
 refine tx 1 20 (pq f 0) hH ?_
 refine tx 2 21 (pq f 14) hH ?_
 refine r1 3 fun K hK=>?_
 go_simp
 refine (Amv 0 (by decide) _).mono ?_
 rintro e W4 ⟨rfl,hb4⟩
 go_wp2_with fail
 refine hK.out _ _ trivial fun hH=>?_
 clear hK K
 have hbA:=(Below.refl _ _).drew.trans hb4
 have hf4:=bk hbA hf3
 refine r1 4 fun K hK=>?_
 go_simp
 refine (Vb (o:=14) (hs3.below hbA) hf4 rfl (by decide) 0 (by omega)).mono ?_
 rintro e W5 ⟨sv5,rfl,hf5,hs5,hp5⟩
 go_wp2_with fail
 refine hK.out _ _ trivial fun hH=>?_
 clear hK K
 refine dn ?_
 go_wp2
 simp [bodyPost,results,Tryz.results342,go_sem]
 exact ⟨sv5,hf5,hs5,(hp3.mono (fun _ _ h=>h) (fun t h=>by cases h)).trans ((Pres.of_below hbA _ _).trans hp5)⟩
end
section
attribute [local go_sem] wd
section
variable {W : World} {l m mc f : Nat} {dm : Dm} {cr : Int} {L : AL} {J : List Value} {F : Frm} {sv lg : SV} {back depth : Int}
theorem Alz (h : LG W l m dm cr L J) (hm : W.heap[mc]? = ob (Aj l lg back depth) 165) (hdp : depth ≠ 64) (hf : W.heap[f]? = ob (frC F sv) 225) {q p : Int × Nat × Ac} (hq : q ∈ L) (hself : q.1 = F.self) (hp : p ∈ L) (gas : Int) (data : SV) {Ψ : Value -> World -> Prop}
    (hrun : ∀ w f',w.heap[f']? = ob (frC ⟨mc,(J.length : Int),(lg.n : Int),back,p.2.2.code,p.2.2.mark,F.self,F.caller,F.val,data,gas,0,0⟩ ⟨none,0,0⟩) 225 -> W.heap.size <= f' -> w.heap[mc]? = ob (Aj l lg back depth) 165 -> LG w l m dm cr L J -> Below W.heap.size W w ->
      Calls TryQ.prog 139 #[pq mc 0,pq f' 0] w fun e w'=>∃ t v,e = .returned (.iface t v) /\ Calls TryQ.prog 137 #[pq mc 0,.iface t v] w' fun e w'=>∃ t v,e = .returned (.iface t v) /\ Ψ (.iface t v) w') :
    Calls TryQ.prog 344 #[pq mc 0,.int .i64 p.1,pq f 0,.int .i64 gas,.slice data.a data.n data.c] W fun e w'=>∃ t v,e = .returned (.iface t v) /\ Ψ (.iface t v) w':=by
 have hmay:=Lx h hm hdp hq 0 (by decide) (Nat.zero_le _)
 rw [wd0,hself] at hmay
 have hrs : Shut (∀ w f',w.heap[f']? = ob (frC ⟨mc,(J.length : Int),(lg.n : Int),back,p.2.2.code,p.2.2.mark,F.self,F.caller,F.val,data,gas,0,0⟩ ⟨none,0,0⟩) 225 -> W.heap.size <= f' -> w.heap[mc]? = ob (Aj l lg back depth) 165 -> LG w l m dm cr L J -> Below W.heap.size W w ->
      Calls TryQ.prog 139 #[pq mc 0,pq f' 0] w fun e w'=>∃ t v,e = .returned (.iface t v) /\ Calls TryQ.prog 137 #[pq mc 0,.iface t v] w' fun e w'=>∃ t v,e = .returned (.iface t v) /\ Ψ (.iface t v) w'):=hrun
 clear hrun
 have hfl:=Aa hf
 have hml:=Aa hm
 have c6:=bq hf 6 rfl
 go_enter TryQ.func344,Tryz.ntmps344
 go_wp2_with fail
 refine hmay.mono ?_
 rintro e W1 ⟨rfl,hb1⟩
 clear hmay c6
 have h1:=h.below hb1
 have hf1:=(hb1.block _ hfl).trans hf
 have hm1:=(hb1.block _ hml).trans hm
 go_wp2_with fail
 refine rq (fun V=>V.heap[f]? = ob (frC F sv) 225) hf1 fun hH=>?_
 refine tx 0 26 (pq mc 0) hH ?_
 refine tx 1 27 (pq f 0) hH ?_
 refine tx 2 28 (pq f 0) hH ?_
 refine tx 3 29 (pq f 6) hH ?_
 refine tv 4 30 (.int .i64 F.self) (fun _ hW=>bq hW 6 rfl) hH ?_
 refine tx 5 31 (pq f 0) hH ?_
 refine tx 6 32 (pq f 0) hH ?_
 refine tx 7 33 (pq f 7) hH ?_
 refine tv 8 34 (.int .i64 F.caller) (fun _ hW=>bq hW 7 rfl) hH ?_
 refine tx 9 35 (pq f 0) hH ?_
 refine tx 10 36 (pq f 0) hH ?_
 refine tx 11 37 (pq f 8) hH ?_
 refine tv 12 38 (.agg #[.int .u64 (lim F.val 0),.int .u64 (lim F.val 1),.int .u64 (lim F.val 2),.int .u64 (lim F.val 3)]) (fun _ hW=>aq (bq hW 8 rfl) (aq (bq hW 9 rfl) (aq (bq hW 10 rfl) (bq hW 11 rfl)))) hH ?_
 refine tx 13 39 (.slice data.a data.n data.c) hH ?_
 refine tx 14 40 (.int .i64 gas) hH ?_
 refine tx 15 41 (.agg #[.pointer none,.int .i64 0,.int .i64 0,.int .i64 0,.string ⟨#[]⟩,.slice none 0 0,.int .i64 F.self,.int .i64 F.caller,.int .u64 (lim F.val 0),.int .u64 (lim F.val 1),.int .u64 (lim F.val 2),.int .u64 (lim F.val 3),.slice data.a data.n data.c,.int .i64 gas,.slice none 0 0,.slice none 0 0,.int .i64 0,.int .i64 0]) hH ?_
 refine r1 16 fun K hK=>?_
 go_simp
 refine (Yt (h1.below (Below.refl _ _).drew) (hm1 : W1.drew.heap[mc]? = _) F.self F.caller F.val data gas).mono ?_
 rintro e W2 ⟨rfl,hf2,hb2⟩
 go_wp2_with fail
 refine hK.out _ _ ((hb2.block _ (Aa hH)).trans hH) fun hH=>?_
 clear hK K
 refine tx 17 12 (pq W1.drew.heap.size 0) hH ?_
 refine dn ?_
 have hbB:=hb1.drew.trans (hb2.mono hb1.size)
 have h2:=h.below hbB
 have hm2:=(hbB.block _ hml).trans hm
 have hfz : W.heap.size <= W1.drew.heap.size:=hb1.size
 generalize W1.drew.heap.size = f' at hf2 hfz ⊢
 have hcd:=Adt h2 hp
 have c0:=bq hm2 0 rfl
 go_wp2_with fail
 refine hcd.mono ?_
 rintro e W3 ⟨rfl,hb3⟩
 clear hcd c0
 have hf3:=bk hb3 hf2
 have g4:=bq hf3 4 rfl
 have g5:=bq hf3 5 rfl
 have z4:=Ai hf3 4
 have z5:=Ai hf3 5
 go_wp2_with fail
 have hf4 : ((W3.setCell ⟨f',4,none⟩ (.string p.2.2.code)).setCell ⟨f',5,none⟩ (.slice p.2.2.mark.a p.2.2.mark.n p.2.2.mark.c)).heap[f']? = ob (frC ⟨mc,(J.length : Int),(lg.n : Int),back,p.2.2.code,p.2.2.mark,F.self,F.caller,F.val,data,gas,0,0⟩ ⟨none,0,0⟩) 225:=Av (i:=5) (Av (i:=4) hf3)
 have hbC : Below W.heap.size W ((W3.setCell ⟨f',4,none⟩ (.string p.2.2.code)).setCell ⟨f',5,none⟩ (.slice p.2.2.mark.a p.2.2.mark.n p.2.2.mark.c)):=((hbB.trans (hb3.mono hbB.size)).setCell hfz _).setCell hfz _
 clear g4 g5 z4 z5
 generalize (W3.setCell ⟨f',4,none⟩ (.string p.2.2.code)).setCell ⟨f',5,none⟩ (.slice p.2.2.mark.a p.2.2.mark.n p.2.2.mark.c) = W4 at hf4 hbC ⊢
 have hr1:=hrs.out W4 f' hf4 hfz ((hbC.block _ hml).trans hm) (h.below hbC) hbC
 clear hrs
 refine hr1.mono ?_
 rintro e w6 ⟨t,v,rfl,hcon⟩
 clear hr1
 go_wp2_with fail
 refine hcon.mono ?_
 rintro e w7 ⟨t,v,rfl,hΨ⟩
 clear hcon
 go_wp2
 go_ret
 exact ⟨t,v,rfl,hΨ⟩
end
end
end Go.Mark
