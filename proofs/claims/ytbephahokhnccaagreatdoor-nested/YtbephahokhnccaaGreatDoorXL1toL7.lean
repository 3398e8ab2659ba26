import Derived.Test.YtbephahokhnccaaGreatDoorXK17toK38
set_option linter.unusedSectionVars false
set_option maxRecDepth 100000
set_option maxHeartbeats 8000000
namespace Go.Mark
open Go.RowKit Go.Proofs
variable [BaseB]
section
attribute [local go_sem] wd
theorem Ahc (i a b : Nat) (h : b < 2 ^ i) (hl : 2 ^ i * a + b < 18446744073709551616) : bits .or .u64 ((2 ^ i * a : Nat) : Int) (b : Int) = ((2 ^ i * a + b : Nat) : Int):=by
  rw [bits_or_u64_nat _ _ (by omega) (by omega),Nat.two_pow_add_eq_or_of_lt h]
theorem or3 (x y z : Nat) (hx : x < 256) (hy : y < 256) (hz : z < 256) : bits .or .u64 0 ((x : Int) * 65536) = (x : Int) * 65536 /\ bits .or .u64 ((x : Int) * 65536) ((y : Int) * 256) = (x : Int) * 65536 + (y : Int) * 256 /\ bits .or .u64 ((x : Int) * 65536 + (y : Int) * 256) (z : Int) = (x : Int) * 65536 + (y : Int) * 256 + (z : Int):=by
  refine ⟨?_,?_,?_⟩
  · have:=bits_or_u64_nat 0 (x * 65536) (by decide) (by omega)
    rw [Nat.zero_or] at this
    simpa using this
  · have:=Ahc 16 x (y * 256) (by omega) (by omega)
    rw [show ((2 ^ 16 * x : Nat) : Int) = (x : Int) * 65536 by omega,show ((y * 256 : Nat) : Int) = (y : Int) * 256 by omega,show ((2 ^ 16 * x + y * 256 : Nat) : Int) = (x : Int) * 65536 + (y : Int) * 256 by omega] at this
    exact this
  · have:=Ahc 8 (x * 256 + y) z (by omega) (by omega)
    rw [show ((2 ^ 8 * (x * 256 + y) : Nat) : Int) = (x : Int) * 65536 + (y : Int) * 256 by omega,show ((2 ^ 8 * (x * 256 + y) + z : Nat) : Int) = (x : Int) * 65536 + (y : Int) * 256 + (z : Int) by omega] at this
    exact this
theorem J2 (n : Nat) (h : n < 18446744073709551616) : lim n 0 = (n : Int) /\ lim n 1 = 0 /\ lim n 2 = 0 /\ lim n 3 = 0:=by
  unfold lim
  refine ⟨?_,?_,?_,?_⟩ <;> simp <;> omega
theorem Ab8 {W : World} (b cap x y z : Nat) (hb : b < W.heap.size) (hx : x < 256) (hy : y < 256) (hz : z < 256) (hc : W.cell? ⟨b,0,none⟩ = some (.int .u8 (x : Int))) (hc1 : W.cell? ⟨b,1,none⟩ = some (.int .u8 (y : Int))) (hc2 : W.cell? ⟨b,2,none⟩ = some (.int .u8 (z : Int))) :
    Calls TryQ.prog 327 #[.slice (some ⟨b,0,none⟩) 3 cap] W fun e w'=>e = .returned (wd (x * 65536 + y * 256 + z)) /\ Below W.heap.size W w':=by
 obtain ⟨h0,h1,h2,h3⟩:=J2 (x * 65536 + y * 256 + z) (by omega)
 obtain ⟨o1,o2,o3⟩:=or3 x y z hx hy hz
 have w1 : IntKind.u64.wrap ((x : Int) * 65536) = (x : Int) * 65536:=IntWalk.u64_in _ (by omega)
 have w2 : IntKind.u64.wrap ((y : Int) * 256) = (y : Int) * 256:=IntWalk.u64_in _ (by omega)
 have w3 : IntKind.u64.wrap (z : Int) = (z : Int):=IntWalk.u64_in _ (by omega)
 have w4 : IntKind.u64.wrap (x : Int) = (x : Int):=IntWalk.u64_in _ (by omega)
 have w5 : IntKind.u64.wrap (y : Int) = (y : Int):=IntWalk.u64_in _ (by omega)
 have hw0 : IntKind.i64.wrap 0 = 0:=by decide
 have hw1 : IntKind.i64.wrap 1 = 1:=by decide
 have hw2 : IntKind.i64.wrap 2 = 2:=by decide
 have hw3 : IntKind.i64.wrap 3 = 3:=by decide
 have hw8 : IntKind.i64.wrap 8 = 8:=by decide
 have hw16 : IntKind.i64.wrap 16 = 16:=by decide
 have hwb : wd (x * 65536 + y * 256 + z) = .agg #[.int .u64 ((x : Int) * 65536 + (y : Int) * 256 + (z : Int)),.int .u64 0,.int .u64 0,.int .u64 0]:=by unfold wd; rw [h0,h1,h2,h3]; simp
 rw [hwb]
 clear h0 h1 h2 h3 hwb
 have hb1 : Below W.heap.size W ((W.alloc (.cells wz 41)).alloc (.cells wz 41)):=ba.trans (ba.mono (by simp))
 have hz1 : ((W.alloc (.cells wz 41)).alloc (.cells wz 41)).heap[W.heap.size]? = ob wz 41:=Aw (Al W _)
 have hn1 : ((W.alloc (.cells wz 41)).alloc (.cells wz 41)).heap[W.heap.size + 1]? = ob wz 41:=by have:=Al (W.alloc (.cells wz 41)) (.cells wz 41); simpa using this
 go_enter TryQ.func327,Tryz.ntmps327
 go_wp2_with fail
 generalize ((W.alloc (.cells wz 41)).alloc (.cells wz 41)) = V9 at hb1 hz1 hn1 ⊢
 have e0:=bq hn1 0 rfl
 have e1:=(hb1.cell (p:=⟨b,0,none⟩) hb).trans hc
 have e2:=Ai hn1 0
 refine wp_loop_rounds 4 ?_
 rw [rounds_succ]
 go_wp2_with fail
 refine rq (fun V=>True) trivial fun hH=>?_
 refine tx 0 19 (.int .i64 2) hH ?_
 refine tx 1 20 (.int .i64 0) hH ?_
 refine tx 2 21 (pq (W.heap.size + 1) 0) hH ?_
 refine tx 4 23 (.int .u8 (x : Int)) hH ?_
 refine tx 5 24 (.int .u64 (x : Int)) hH ?_
 refine tx 6 25 (.int .i64 2) hH ?_
 refine tx 7 26 (.int .i64 2) hH ?_
 refine tx 8 27 (.int .i64 16) hH ?_
 refine tx 9 28 (.int .u64 ((x : Int) * 65536)) hH ?_
 refine r1 3 fun K hK=>?_
 go_simp
 refine hK.out _ _ trivial fun hH=>?_
 clear hK K
 refine tx 10 29 (.int .u64 ((x : Int) * 65536)) hH ?_
 refine tx 11 30 (pq (W.heap.size + 1) 0) hH ?_
 refine r1 12 fun K hK=>?_
 go_simp
 refine hK.out _ _ trivial fun hH=>?_
 clear hK K
 refine dn ?_
 go_wp2_with fail
 refine rg (fun V=>V.heap[W.heap.size + 1]? = ob #[.int .u64 ((x : Int) * 65536),.int .u64 0,.int .u64 0,.int .u64 0] 41 /\ V.heap[W.heap.size]? = ob wz 41 /\ Below W.heap.size W V) ⟨Av (w:=_) (by exact hn1),Ae (w:=_) (by exact hz1) (by omega),(hb1.drew).setCell (by dsimp only; omega) _⟩ ?_
 rintro V0 ⟨hn2,hz2,hb2⟩
 clear e0 e1 e2
 have e0:=bq hn2 0 rfl
 have e1:=(hb2.cell (p:=⟨b,1,none⟩) hb).trans hc1
 have e2:=Ai hn2 0
 rw [rounds_succ]
 go_wp2_with fail
 refine rq (fun V=>True) trivial fun hH=>?_
 refine tx 0 19 (.int .i64 1) hH ?_
 refine tx 1 20 (.int .i64 0) hH ?_
 refine tx 2 21 (pq (W.heap.size + 1) 0) hH ?_
 refine tx 4 23 (.int .u8 (y : Int)) hH ?_
 refine tx 5 24 (.int .u64 (y : Int)) hH ?_
 refine tx 6 25 (.int .i64 1) hH ?_
 refine tx 7 26 (.int .i64 1) hH ?_
 refine tx 8 27 (.int .i64 8) hH ?_
 refine tx 9 28 (.int .u64 ((y : Int) * 256)) hH ?_
 refine r1 3 fun K hK=>?_
 go_simp
 refine hK.out _ _ trivial fun hH=>?_
 clear hK K
 refine tx 10 29 (.int .u64 ((x : Int) * 65536 + (y : Int) * 256)) hH ?_
 refine tx 11 30 (pq (W.heap.size + 1) 0) hH ?_
 refine r1 12 fun K hK=>?_
 go_simp
 refine hK.out _ _ trivial fun hH=>?_
 clear hK K
 refine dn ?_
 go_wp2_with fail
 refine rg (fun V=>V.heap[W.heap.size + 1]? = ob #[.int .u64 ((x : Int) * 65536 + (y : Int) * 256),.int .u64 0,.int .u64 0,.int .u64 0] 41 /\ V.heap[W.heap.size]? = ob wz 41 /\ Below W.heap.size W V) ⟨Av (w:=_) (by exact hn2),Ae (w:=_) (by exact hz2) (by omega),(hb2.drew).setCell (by dsimp only; omega) _⟩ ?_
 rintro V1 ⟨hn3,hz3,hb3⟩
 clear e0 e1 e2
 have e0:=bq hn3 0 rfl
 have e1:=(hb3.cell (p:=⟨b,2,none⟩) hb).trans hc2
 have e2:=Ai hn3 0
 rw [rounds_succ]
 go_wp2_with fail
 refine rq (fun V=>True) trivial fun hH=>?_
 refine tx 0 19 (.int .i64 0) hH ?_
 refine tx 1 20 (.int .i64 0) hH ?_
 refine tx 2 21 (pq (W.heap.size + 1) 0) hH ?_
 refine tx 4 23 (.int .u8 (z : Int)) hH ?_
 refine tx 5 24 (.int .u64 (z : Int)) hH ?_
 refine tx 6 25 (.int .i64 0) hH ?_
 refine tx 7 26 (.int .i64 0) hH ?_
 refine tx 8 27 (.int .i64 0) hH ?_
 refine tx 9 28 (.int .u64 ((z : Int))) hH ?_
 refine r1 3 fun K hK=>?_
 go_simp
 refine hK.out _ _ trivial fun hH=>?_
 clear hK K
 refine tx 10 29 (.int .u64 ((x : Int) * 65536 + (y : Int) * 256 + (z : Int))) hH ?_
 refine tx 11 30 (pq (W.heap.size + 1) 0) hH ?_
 refine r1 12 fun K hK=>?_
 go_simp
 refine hK.out _ _ trivial fun hH=>?_
 clear hK K
 refine dn ?_
 go_wp2_with fail
 refine rg (fun V=>V.heap[W.heap.size + 1]? = ob #[.int .u64 ((x : Int) * 65536 + (y : Int) * 256 + (z : Int)),.int .u64 0,.int .u64 0,.int .u64 0] 41 /\ V.heap[W.heap.size]? = ob wz 41 /\ Below W.heap.size W V) ⟨Av (w:=_) (by exact hn3),Ae (w:=_) (by exact hz3) (by omega),(hb3.drew).setCell (by dsimp only; omega) _⟩ ?_
 rintro V2 ⟨hn4,hz4,hb4⟩
 rw [rounds_succ]
 clear e0 e1 e2
 have e0:=bq hn4 0 rfl
 have e1:=bq hn4 1 rfl
 have e2:=bq hn4 2 rfl
 have e3:=bq hn4 3 rfl
 have z0:=bq hz4 0 rfl
 have z1:=bq hz4 1 rfl
 have z2:=bq hz4 2 rfl
 have z3:=bq hz4 3 rfl
 have f0:=Ai hz4 0
 have f1:=Ai hz4 1
 have f2:=Ai hz4 2
 have f3:=Ai hz4 3
 go_wp2
 have hn5:=Cx (.int .u64 ((x : Int) * 65536 + (y : Int) * 256 + (z : Int))) (.int .u64 0) (.int .u64 0) (.int .u64 0) hz4
 have hb5 : Below W.heap.size W ((((V2.setCell ⟨W.heap.size,0,none⟩ (.int .u64 ((x : Int) * 65536 + (y : Int) * 256 + (z : Int)))).setCell ⟨W.heap.size,1,none⟩ (.int .u64 0)).setCell ⟨W.heap.size,2,none⟩ (.int .u64 0)).setCell ⟨W.heap.size,3,none⟩ (.int .u64 0)):=(((hb4.setCell (Nat.le_refl _) _).setCell (Nat.le_refl _) _).setCell (Nat.le_refl _) _).setCell (Nat.le_refl _) _
 generalize ((((V2.setCell ⟨W.heap.size,0,none⟩ (.int .u64 ((x : Int) * 65536 + (y : Int) * 256 + (z : Int)))).setCell ⟨W.heap.size,1,none⟩ (.int .u64 0)).setCell ⟨W.heap.size,2,none⟩ (.int .u64 0)).setCell ⟨W.heap.size,3,none⟩ (.int .u64 0)) = V5 at hn5 hb5 ⊢
 clear z0 z1 z2 z3
 have z0:=Ad hn5 0
 have z1:=Ad hn5 1
 have z2:=Ad hn5 2
 have z3:=Ad hn5 3
 simp at z0 z1 z2 z3
 simp [bodyPost,results,Tryz.results327,go_sem,z0,z1,z2,z3]
 exact hb5
theorem Arx (W : World) (b : Nat) (s : ByteArray) (x y z : UInt8) (hx : s.data[0]? = some x) (hy : s.data[1]? = some y) (hz : s.data[2]? = some z) {c : Array Value} (hb : W.heap[b]? = ob c 394) (hc : 3 <= c.size) :
    (Builtin.copy_ #[31,9] 3 #[.slice (some ⟨b,0,none⟩) 3 32,.string s]).run TryQ.prog W = .ok (.int .i64 3) (((W.setCell ⟨b,0,none⟩ (.int .u8 (x.toNat : Int))).setCell ⟨b,1,none⟩ (.int .u8 (y.toNat : Int))).setCell ⟨b,2,none⟩ (.int .u8 (z.toNat : Int))):=by
  have hs : 2 < s.size:=(Array.getElem?_eq_some_iff.1 hz).1
  have hm : Nat.min s.size 3 = 3:=by show min s.size 3 = 3; omega
  obtain ⟨rest,hr⟩ : ∃ rest,s.data.toList = x :: y :: z :: rest:=by
    rw [<- Array.getElem?_toList] at hx hy hz
    revert hx hy hz
    rcases s.data.toList with _ | ⟨p,_ | ⟨q,_ | ⟨r,t⟩⟩⟩ <;> simp
    rintro rfl rfl rfl
    exact ⟨rfl,rfl,rfl⟩
  have hzs : ∀ w,(Go.sizeOf 5).run TryQ.prog w = .ok 1 w:=fun w=>(Ag 5 w).trans (Tryz.sizeOf5 w)
  have h1:=Av (i:=0) (v:=.int .u8 (x.toNat : Int)) hb
  have h2:=Av (i:=1) (v:=.int .u8 (y.toNat : Int)) h1
  have c0 : W.cell? ⟨b,0,none⟩ = some c[0]:=by rw [Ad hb 0,Array.getElem?_eq_getElem (by omega)]
  have c1 : (W.setCell ⟨b,0,none⟩ (.int .u8 (x.toNat : Int))).cell? ⟨b,1,none⟩ = some ((c.setIfInBounds 0 (.int .u8 (x.toNat : Int)))[1]'(by simp; omega)):=by rw [Ad h1 1,Array.getElem?_eq_getElem]
  have c2 : ((W.setCell ⟨b,0,none⟩ (.int .u8 (x.toNat : Int))).setCell ⟨b,1,none⟩ (.int .u8 (y.toNat : Int))).cell? ⟨b,2,none⟩ = some (((c.setIfInBounds 0 (.int .u8 (x.toNat : Int))).setIfInBounds 1 (.int .u8 (y.toNat : Int)))[2]'(by simp; omega)):=by rw [Ad h2 2,Array.getElem?_eq_getElem]
  have f0:=Ai hb 0
  have f1:=Ai h1 1
  have f2:=Ai h2 2
  unfold Builtin.copy_
  simp [run_underlying ((Ab 31).trans Tryz.underlying31),Builtin.lenOf,Builtin.firstCells,hm,hzs,hr,storeCells,Addr.add]
  rw [run_store TryQ.prog W _ _ _ (by rfl)]
  simp [c0,f0,goInt]
  rw [run_store TryQ.prog _ _ _ _ (by rfl)]
  simp [c1,f1]
  rw [run_store TryQ.prog _ _ _ _ (by rfl)]
  simp [c2,f2]
theorem An2 {W : World} (s : ByteArray) (x y z : UInt8) (hx : s.data[0]? = some x) (hy : s.data[1]? = some y) (hz : s.data[2]? = some z) :
    Calls TryQ.prog 346 #[.string s,.int .i64 3] W fun e w'=>e = .returned (wd (x.toNat * 65536 + y.toNat * 256 + z.toNat)) /\ Below W.heap.size W w':=by
 have hxl : x.toNat < 256:=x.toNat_lt
 have hyl : y.toNat < 256:=y.toNat_lt
 have hzl : z.toNat < 256:=z.toNat_lt
 have hn : ((W.alloc (.cells wz 41)).alloc (.cells #[.int .u8 0,.int .u8 0,.int .u8 0,.int .u8 0,.int .u8 0,.int .u8 0,.int .u8 0,.int .u8 0,.int .u8 0,.int .u8 0,.int .u8 0,.int .u8 0,.int .u8 0,.int .u8 0,.int .u8 0,.int .u8 0,.int .u8 0,.int .u8 0,.int .u8 0,.int .u8 0,.int .u8 0,.int .u8 0,.int .u8 0,.int .u8 0,.int .u8 0,.int .u8 0,.int .u8 0,.int .u8 0,.int .u8 0,.int .u8 0,.int .u8 0,.int .u8 0] 394)).heap[W.heap.size + 1]? = ob #[.int .u8 0,.int .u8 0,.int .u8 0,.int .u8 0,.int .u8 0,.int .u8 0,.int .u8 0,.int .u8 0,.int .u8 0,.int .u8 0,.int .u8 0,.int .u8 0,.int .u8 0,.int .u8 0,.int .u8 0,.int .u8 0,.int .u8 0,.int .u8 0,.int .u8 0,.int .u8 0,.int .u8 0,.int .u8 0,.int .u8 0,.int .u8 0,.int .u8 0,.int .u8 0,.int .u8 0,.int .u8 0,.int .u8 0,.int .u8 0,.int .u8 0,.int .u8 0] 394:=by have:=Al (W.alloc (.cells wz 41)) (.cells #[.int .u8 0,.int .u8 0,.int .u8 0,.int .u8 0,.int .u8 0,.int .u8 0,.int .u8 0,.int .u8 0,.int .u8 0,.int .u8 0,.int .u8 0,.int .u8 0,.int .u8 0,.int .u8 0,.int .u8 0,.int .u8 0,.int .u8 0,.int .u8 0,.int .u8 0,.int .u8 0,.int .u8 0,.int .u8 0,.int .u8 0,.int .u8 0,.int .u8 0,.int .u8 0,.int .u8 0,.int .u8 0,.int .u8 0,.int .u8 0,.int .u8 0,.int .u8 0] 394); simpa using this
 have hcp:=Arx _ _ s x y z hx hy hz hn (by decide)
 have hn2:=Av (i:=2) (v:=.int .u8 (z.toNat : Int)) (Av (i:=1) (v:=.int .u8 (y.toNat : Int)) (Av (i:=0) (v:=.int .u8 (x.toNat : Int)) hn))
 have hb1 : Below W.heap.size W (((((W.alloc (.cells wz 41)).alloc (.cells #[.int .u8 0,.int .u8 0,.int .u8 0,.int .u8 0,.int .u8 0,.int .u8 0,.int .u8 0,.int .u8 0,.int .u8 0,.int .u8 0,.int .u8 0,.int .u8 0,.int .u8 0,.int .u8 0,.int .u8 0,.int .u8 0,.int .u8 0,.int .u8 0,.int .u8 0,.int .u8 0,.int .u8 0,.int .u8 0,.int .u8 0,.int .u8 0,.int .u8 0,.int .u8 0,.int .u8 0,.int .u8 0,.int .u8 0,.int .u8 0,.int .u8 0,.int .u8 0] 394)).setCell ⟨W.heap.size + 1,0,none⟩ (.int .u8 (x.toNat : Int))).setCell ⟨W.heap.size + 1,1,none⟩ (.int .u8 (y.toNat : Int))).setCell ⟨W.heap.size + 1,2,none⟩ (.int .u8 (z.toNat : Int))):=((((ba.trans (ba.mono (by simp))).setCell (by dsimp only; omega) _).setCell (by dsimp only; omega) _).setCell (by dsimp only; omega) _)
 have hnW : (((((W.alloc (.cells wz 41)).alloc (.cells #[.int .u8 0,.int .u8 0,.int .u8 0,.int .u8 0,.int .u8 0,.int .u8 0,.int .u8 0,.int .u8 0,.int .u8 0,.int .u8 0,.int .u8 0,.int .u8 0,.int .u8 0,.int .u8 0,.int .u8 0,.int .u8 0,.int .u8 0,.int .u8 0,.int .u8 0,.int .u8 0,.int .u8 0,.int .u8 0,.int .u8 0,.int .u8 0,.int .u8 0,.int .u8 0,.int .u8 0,.int .u8 0,.int .u8 0,.int .u8 0,.int .u8 0,.int .u8 0] 394)).setCell ⟨W.heap.size + 1,0,none⟩ (.int .u8 (x.toNat : Int))).setCell ⟨W.heap.size + 1,1,none⟩ (.int .u8 (y.toNat : Int))).setCell ⟨W.heap.size + 1,2,none⟩ (.int .u8 (z.toNat : Int))).heap[W.heap.size]? = ob wz 41:=Ae (Ae (Ae (Aw (Al W _)) (by omega)) (by omega)) (by omega)
 generalize hV : (((((W.alloc (.cells wz 41)).alloc (.cells #[.int .u8 0,.int .u8 0,.int .u8 0,.int .u8 0,.int .u8 0,.int .u8 0,.int .u8 0,.int .u8 0,.int .u8 0,.int .u8 0,.int .u8 0,.int .u8 0,.int .u8 0,.int .u8 0,.int .u8 0,.int .u8 0,.int .u8 0,.int .u8 0,.int .u8 0,.int .u8 0,.int .u8 0,.int .u8 0,.int .u8 0,.int .u8 0,.int .u8 0,.int .u8 0,.int .u8 0,.int .u8 0,.int .u8 0,.int .u8 0,.int .u8 0,.int .u8 0] 394)).setCell ⟨W.heap.size + 1,0,none⟩ (.int .u8 (x.toNat : Int))).setCell ⟨W.heap.size + 1,1,none⟩ (.int .u8 (y.toNat : Int))).setCell ⟨W.heap.size + 1,2,none⟩ (.int .u8 (z.toNat : Int))) = V at hcp hn2 hb1 hnW
 clear hn
 go_enter TryQ.func346,Tryz.ntmps346
 go_wp2_with fail
 refine (Ab8 (W.heap.size + 1) 32 x.toNat y.toNat z.toNat (Aa hn2) hxl hyl hzl (by rw [Ad hn2 0]; rfl) (by rw [Ad hn2 1]; rfl) (by rw [Ad hn2 2]; rfl)).mono ?_
 rintro e w2 ⟨rfl,hb2⟩
 have hnW2:=bk hb2 hnW
 have z0:=bq hnW2 0 rfl
 have z1:=bq hnW2 1 rfl
 have z2:=bq hnW2 2 rfl
 have z3:=bq hnW2 3 rfl
 have y0:=Ai hnW2 0
 have y1:=Ai hnW2 1
 have y2:=Ai hnW2 2
 have y3:=Ai hnW2 3
 clear hcp
 have hb2A:=hb1.trans (hb2.mono hb1.size)
 go_wp2
 have hn5:=Cx (.int .u64 (lim (x.toNat * 65536 + y.toNat * 256 + z.toNat) 0)) (.int .u64 (lim (x.toNat * 65536 + y.toNat * 256 + z.toNat) 1)) (.int .u64 (lim (x.toNat * 65536 + y.toNat * 256 + z.toNat) 2)) (.int .u64 (lim (x.toNat * 65536 + y.toNat * 256 + z.toNat) 3)) hnW2
 have hb5 : Below W.heap.size W ((((w2.setCell ⟨W.heap.size,0,none⟩ (.int .u64 (lim (x.toNat * 65536 + y.toNat * 256 + z.toNat) 0))).setCell ⟨W.heap.size,1,none⟩ (.int .u64 (lim (x.toNat * 65536 + y.toNat * 256 + z.toNat) 1))).setCell ⟨W.heap.size,2,none⟩ (.int .u64 (lim (x.toNat * 65536 + y.toNat * 256 + z.toNat) 2))).setCell ⟨W.heap.size,3,none⟩ (.int .u64 (lim (x.toNat * 65536 + y.toNat * 256 + z.toNat) 3))):=(((hb2A.setCell (Nat.le_refl _) _).setCell (Nat.le_refl _) _).setCell (Nat.le_refl _) _).setCell (Nat.le_refl _) _
 generalize ((((w2.setCell ⟨W.heap.size,0,none⟩ (.int .u64 (lim (x.toNat * 65536 + y.toNat * 256 + z.toNat) 0))).setCell ⟨W.heap.size,1,none⟩ (.int .u64 (lim (x.toNat * 65536 + y.toNat * 256 + z.toNat) 1))).setCell ⟨W.heap.size,2,none⟩ (.int .u64 (lim (x.toNat * 65536 + y.toNat * 256 + z.toNat) 2))).setCell ⟨W.heap.size,3,none⟩ (.int .u64 (lim (x.toNat * 65536 + y.toNat * 256 + z.toNat) 3))) = V5 at hn5 hb5 ⊢
 clear z0 z1 z2 z3
 have z0:=Ad hn5 0
 have z1:=Ad hn5 1
 have z2:=Ad hn5 2
 have z3:=Ad hn5 3
 simp at z0 z1 z2 z3
 simp [bodyPost,results,Tryz.results346,go_sem,z0,z1,z2,z3]
 exact hb5
theorem Ak7 {W : World} {f : Nat} {F : Frm} {sv : SV} (hf : W.heap[f]? = ob (frC F sv) 225) (p : Nat) (hpl : F.place = (p : Int)) (hnx : F.next = (p : Int) + 4) (hp : p < 1000000) (x y z : UInt8) (hx : F.text.data[p + 1]? = some x) (hy : F.text.data[p + 1 + 1]? = some y) (hz : F.text.data[p + 1 + 2]? = some z) :
    Calls TryQ.prog 337 #[pq f 0] W fun e w'=>e = .returned (wd (x.toNat * 65536 + y.toNat * 256 + z.toNat)) /\ Below W.heap.size W w':=by
 have hps : p + 1 + 2 < F.text.size:=(Array.getElem?_eq_some_iff.1 hz).1
 have hx2 : (F.text.extract (p + 1) F.text.size).data[0]? = some x:=by
  rw [ByteArray.data_extract,Array.getElem?_extract]
  rw [if_pos (by show 0 < min F.text.size F.text.data.size - (p + 1); have : F.text.data.size = F.text.size:=rfl; omega)]
  exact hx
 have hy2 : (F.text.extract (p + 1) F.text.size).data[1]? = some y:=by
  rw [ByteArray.data_extract,Array.getElem?_extract]
  rw [if_pos (by show 1 < min F.text.size F.text.data.size - (p + 1); have : F.text.data.size = F.text.size:=rfl; omega)]
  exact hy
 have hz2 : (F.text.extract (p + 1) F.text.size).data[2]? = some z:=by
  rw [ByteArray.data_extract,Array.getElem?_extract]
  rw [if_pos (by show 2 < min F.text.size F.text.data.size - (p + 1); have : F.text.data.size = F.text.size:=rfl; omega)]
  exact hz
 have hfl:=Aa hf
 have hn:=Al W (.cells wz 41)
 have hf1:=Aw (p:=.cells wz 41) hf
 have c16:=bq hf 16 rfl
 rw [hpl] at c16
 have hw1 : IntKind.i64.wrap ((p : Int) + 1) = (p : Int) + 1:=IntWalk.i64_in _ ⟨by omega,by omega⟩
 have hw2 : IntKind.i64.wrap ((p : Int) + 4 - ((p : Int) + 1)) = 3:=by rw [show (p : Int) + 4 - ((p : Int) + 1) = 3 by omega]; decide
 have hb1 : Below W.heap.size W (W.alloc (.cells wz 41)):=ba
 go_enter TryQ.func337,Tryz.ntmps337
 go_wp2_with fail
 clear c16
 change Code.wp _ _ _ _ (W.alloc (.cells wz 41))
 have hwl : W.heap.size < (W.alloc (.cells wz 41)).heap.size:=Aa hn
 generalize W.alloc (.cells wz 41) = W1 at hn hf1 hb1 hwl ⊢
 refine rq (fun V=>V.heap[f]? = ob (frC F sv) 225) hf1 fun hH=>?_
 refine tx 0 9 (pq f 0) hH ?_
 refine tx 1 10 (pq f 0) hH ?_
 refine tx 2 11 (pq f 4) hH ?_
 refine tv 3 12 (.string F.text) (fun _ hW=>bq hW 4 rfl) hH ?_
 refine tx 4 13 (.int .i64 ((p : Int) + 1)) hH ?_
 refine td (i:=5) (d:=some 14) (v:=.string (F.text.extract (p + 1) F.text.size)) rfl rfl (fun V hW=>?_) hH ?_
 ·clear hW hH
  go_simp
  intro hh
  exfalso
  have:=hh (by omega)
  omega
 refine tx 6 15 (pq f 0) hH ?_
 refine tx 7 16 (pq f 0) hH ?_
 refine tx 8 17 (pq f 17) hH ?_
 refine td (i:=9) (d:=some 18) (v:=.int .i64 ((p : Int) + 4)) rfl rfl (fun V hW=>?_) hH ?_
 ·have k0:=bq hW 17 rfl
  rw [hnx] at k0
  clear hW hH
  go_simp
 refine tx 10 19 (.int .i64 ((p : Int) + 1)) hH ?_
 refine tx 11 20 (.int .i64 3) hH ?_
 refine r1 12 fun K hK=>?_
 go_simp
 refine (An2 _ x y z hx2 hy2 hz2).mono ?_
 rintro e W2 ⟨rfl,hb2⟩
 go_wp2_with fail
 refine hK.out _ _ ((hb2.block _ (Aa hH)).trans hH) fun hH=>?_
 clear hK K
 have hn2:=(hb2.block _ (Aa (w:=W1.drew) hn)).trans hn
 have z0:=bq hn2 0 rfl
 have z1:=bq hn2 1 rfl
 have z2:=bq hn2 2 rfl
 have z3:=bq hn2 3 rfl
 have y0:=Ai hn2 0
 have y1:=Ai hn2 1
 have y2:=Ai hn2 2
 have y3:=Ai hn2 3
 refine r1 13 fun K hK=>?_
 go_simp
 refine hK.out _ _ (Ae (Ae (Ae (Ae hH (by omega)) (by omega)) (by omega)) (by omega)) fun hH=>?_
 clear hK K
 refine dn ?_
 have hb2A:=hb1.drew.trans (hb2.mono hb1.size)
 go_wp2
 have hn5:=Cx (.int .u64 (lim (x.toNat * 65536 + y.toNat * 256 + z.toNat) 0)) (.int .u64 (lim (x.toNat * 65536 + y.toNat * 256 + z.toNat) 1)) (.int .u64 (lim (x.toNat * 65536 + y.toNat * 256 + z.toNat) 2)) (.int .u64 (lim (x.toNat * 65536 + y.toNat * 256 + z.toNat) 3)) hn2
 have hb5 : Below W.heap.size W ((((W2.setCell ⟨W.heap.size,0,none⟩ (.int .u64 (lim (x.toNat * 65536 + y.toNat * 256 + z.toNat) 0))).setCell ⟨W.heap.size,1,none⟩ (.int .u64 (lim (x.toNat * 65536 + y.toNat * 256 + z.toNat) 1))).setCell ⟨W.heap.size,2,none⟩ (.int .u64 (lim (x.toNat * 65536 + y.toNat * 256 + z.toNat) 2))).setCell ⟨W.heap.size,3,none⟩ (.int .u64 (lim (x.toNat * 65536 + y.toNat * 256 + z.toNat) 3))):=(((hb2A.setCell (Nat.le_refl _) _).setCell (Nat.le_refl _) _).setCell (Nat.le_refl _) _).setCell (Nat.le_refl _) _
 generalize ((((W2.setCell ⟨W.heap.size,0,none⟩ (.int .u64 (lim (x.toNat * 65536 + y.toNat * 256 + z.toNat) 0))).setCell ⟨W.heap.size,1,none⟩ (.int .u64 (lim (x.toNat * 65536 + y.toNat * 256 + z.toNat) 1))).setCell ⟨W.heap.size,2,none⟩ (.int .u64 (lim (x.toNat * 65536 + y.toNat * 256 + z.toNat) 2))).setCell ⟨W.heap.size,3,none⟩ (.int .u64 (lim (x.toNat * 65536 + y.toNat * 256 + z.toNat) 3))) = V5 at hn5 hb5 ⊢
 clear z0 z1 z2 z3
 have z0:=Ad hn5 0
 have z1:=Ad hn5 1
 have z2:=Ad hn5 2
 have z3:=Ad hn5 3
 simp at z0 z1 z2 z3
 simp [bodyPost,results,Tryz.results337,go_sem,z0,z1,z2,z3]
 exact hb5
end
section
attribute [local go_sem] wd
theorem Aql {W : World} {f : Nat} {F : Frm} {sv : SV} {T : List Nat} {x y : Nat} (hf : W.heap[f]? = ob (frC F sv) 225) (hs : Stk W sv (T ++ [y] ++ [x])) (hx : x < M) (hy : y < M) :
  Calls TryQ.prog 335 #[pq f 0,.int .u8 1] W fun e w'=>∃ sv' : SV,e = .returned (wd ((x + y) % M)) /\ w'.heap[f]? = ob (frC F sv') 225 /\ Stk w' sv' T /\ Pres [f] [] W w':=by
 have hfl:=Aa hf
 have hb0 : Below W.heap.size W ((W.alloc (.cells wz 41)).alloc (.cells #[.int .u64 0,.int .u64 0,.int .u64 0,.int .u64 0,.int .u64 0,.int .u64 0,.int .u64 0,.int .u64 0,.int .u64 0,.int .u64 0,.int .u64 0,.int .u64 0] 319)):=ba.alloc (by simp) _
 have hr0:=Aw (p:=.cells #[.int .u64 0,.int .u64 0,.int .u64 0,.int .u64 0,.int .u64 0,.int .u64 0,.int .u64 0,.int .u64 0,.int .u64 0,.int .u64 0,.int .u64 0,.int .u64 0] 319) (Al W (.cells wz 41))
 have hw0:=Al (W.alloc (.cells wz 41)) (.cells #[.int .u64 0,.int .u64 0,.int .u64 0,.int .u64 0,.int .u64 0,.int .u64 0,.int .u64 0,.int .u64 0,.int .u64 0,.int .u64 0,.int .u64 0,.int .u64 0] 319)
 rw [show (W.alloc (.cells wz 41)).heap.size = W.heap.size + 1 by simp] at hw0
 go_enter TryQ.func335,Tryz.ntmps335
 go_wp2_with fail
 generalize (W.alloc (.cells wz 41)).alloc (.cells #[.int .u64 0,.int .u64 0,.int .u64 0,.int .u64 0,.int .u64 0,.int .u64 0,.int .u64 0,.int .u64 0,.int .u64 0,.int .u64 0,.int .u64 0,.int .u64 0] 319) = w0 at hb0 hr0 hw0 ⊢
 refine (Ac1 w0).mono ?_
 rintro e w1 ⟨rfl,hb1⟩
 have hb1':=hb0.trans (hb1.mono hb0.size)
 have hr1:=bk hb1 hr0
 have hw1:=bk hb1 hw0
 have hb2 : Below W.heap.size W (w1.alloc (.cells #[.int .i64 2,.int .i64 1,.int .i64 3] 369)):=hb1'.trans (ba.mono hb1'.size)
 have hr2:=Aw (p:=.cells #[.int .i64 2,.int .i64 1,.int .i64 3] 369) hr1
 have hw2:=Aw (p:=.cells #[.int .i64 2,.int .i64 1,.int .i64 3] 369) hw1
 have hn2:=Al w1 (.cells #[.int .i64 2,.int .i64 1,.int .i64 3] 369)
 have hf2:=(hb2.block _ hfl).trans hf
 have hs2:=hs.below hb2
 go_wp2_with fail
 generalize w1.alloc (.cells #[.int .i64 2,.int .i64 1,.int .i64 3] 369) = w2 at hb2 hr2 hw2 hn2 hf2 hs2 ⊢
 refine wp_loop_rounds 3 ?_
 rw [rounds_succ]
 go_wp2_with fail
 refine (Cz (o:=14) hs2 hf2 (Fz F sv) (by decide)).mono ?_
 rintro e w3 ⟨rfl,hf3,hs3,hp3⟩
 have hfw : W.heap.size + 1 ≠ f:=by omega
 have hfr : W.heap.size ≠ f:=by omega
 have hw3:=hp3.obj hw2 (by show (319 : Nat) ∉ []; simp) (by simpa using hfw)
 have hr3:=hp3.obj hr2 (by show (41 : Nat) ∉ []; simp) (by simpa using hfr)
 have c0:=bq hw3 0 rfl
 have c1:=bq hw3 1 rfl
 have c2:=bq hw3 2 rfl
 have c3:=bq hw3 3 rfl
 have d0:=Ai hw3 0
 have d1:=Ai hw3 1
 have d2:=Ai hw3 2
 have d3:=Ai hw3 3
 go_wp2_with fail
 have hw4 : (((((w3).setCell ⟨W.heap.size + 1,0,none⟩ (.int .u64 (lim x 0))).setCell ⟨W.heap.size + 1,1,none⟩ (.int .u64 (lim x 1))).setCell ⟨W.heap.size + 1,2,none⟩ (.int .u64 (lim x 2))).setCell ⟨W.heap.size + 1,3,none⟩ (.int .u64 (lim x 3))).heap[W.heap.size + 1]? = ob #[.int .u64 (lim x 0),.int .u64 (lim x 1),.int .u64 (lim x 2),.int .u64 (lim x 3),.int .u64 0,.int .u64 0,.int .u64 0,.int .u64 0,.int .u64 0,.int .u64 0,.int .u64 0,.int .u64 0] 319:=Av (Av (Av (Av hw3)))
 have hp4 : Pres [W.heap.size + 1] [] w3 (((((w3).setCell ⟨W.heap.size + 1,0,none⟩ (.int .u64 (lim x 0))).setCell ⟨W.heap.size + 1,1,none⟩ (.int .u64 (lim x 1))).setCell ⟨W.heap.size + 1,2,none⟩ (.int .u64 (lim x 2))).setCell ⟨W.heap.size + 1,3,none⟩ (.int .u64 (lim x 3))):=(((Pres.setCell w3 _ 0 _).trans (Pres.setCell _ _ 1 _)).trans (Pres.setCell _ _ 2 _)).trans (Pres.setCell _ _ 3 _)
 generalize ((((w3).setCell ⟨W.heap.size + 1,0,none⟩ (.int .u64 (lim x 0))).setCell ⟨W.heap.size + 1,1,none⟩ (.int .u64 (lim x 1))).setCell ⟨W.heap.size + 1,2,none⟩ (.int .u64 (lim x 2))).setCell ⟨W.heap.size + 1,3,none⟩ (.int .u64 (lim x 3)) = w4 at hw4 hp4 ⊢
 have hf4 : w4.heap[f]? = ob (frC F ⟨sv.a,(T ++ [y]).length,sv.c⟩) 225:=hp4.obj hf3 (by show (225 : Nat) ∉ []; simp) (by simp; omega)
 have hr4:=hp4.obj hr3 (by show (41 : Nat) ∉ []; simp) (by simp)
 have hn3:=hp3.obj hn2 (by show (369 : Nat) ∉ []; simp) (by have:=Bc hn2 hf2 (by decide); simpa using this)
 have hs4:=hs3.pres hp4 (by simp) (fun k hk o ho=>by
  obtain rfl : k = W.heap.size + 1:=by simpa using hk
  rw [hw3] at ho
  cases ho
  exact ⟨_,_,_,rfl,by decide⟩)
 clear c0 c1 c2 c3 d0 d1 d2 d3
 rw [rounds_succ]
 go_wp2_with fail
 refine (Cz (o:=14) hs4 hf4 (Fz F _) (by decide)).mono ?_
 rintro e w5 ⟨rfl,hf5,hs5,hp5⟩
 have hw5:=hp5.obj hw4 (by show (319 : Nat) ∉ []; simp) (by simpa using hfw)
 have hr5:=hp5.obj hr4 (by show (41 : Nat) ∉ []; simp) (by simpa using hfr)
 have c0:=bq hw5 4 rfl
 have c1:=bq hw5 5 rfl
 have c2:=bq hw5 6 rfl
 have c3:=bq hw5 7 rfl
 have d0:=Ai hw5 4
 have d1:=Ai hw5 5
 have d2:=Ai hw5 6
 have d3:=Ai hw5 7
 go_wp2_with fail
 have hw6 : (((((w5).setCell ⟨W.heap.size + 1,4,none⟩ (.int .u64 (lim y 0))).setCell ⟨W.heap.size + 1,5,none⟩ (.int .u64 (lim y 1))).setCell ⟨W.heap.size + 1,6,none⟩ (.int .u64 (lim y 2))).setCell ⟨W.heap.size + 1,7,none⟩ (.int .u64 (lim y 3))).heap[W.heap.size + 1]? = ob #[.int .u64 (lim x 0),.int .u64 (lim x 1),.int .u64 (lim x 2),.int .u64 (lim x 3),.int .u64 (lim y 0),.int .u64 (lim y 1),.int .u64 (lim y 2),.int .u64 (lim y 3),.int .u64 0,.int .u64 0,.int .u64 0,.int .u64 0] 319:=Av (Av (Av (Av hw5)))
 have hp6 : Pres [W.heap.size + 1] [] w5 (((((w5).setCell ⟨W.heap.size + 1,4,none⟩ (.int .u64 (lim y 0))).setCell ⟨W.heap.size + 1,5,none⟩ (.int .u64 (lim y 1))).setCell ⟨W.heap.size + 1,6,none⟩ (.int .u64 (lim y 2))).setCell ⟨W.heap.size + 1,7,none⟩ (.int .u64 (lim y 3))):=(((Pres.setCell w5 _ 4 _).trans (Pres.setCell _ _ 5 _)).trans (Pres.setCell _ _ 6 _)).trans (Pres.setCell _ _ 7 _)
 generalize ((((w5).setCell ⟨W.heap.size + 1,4,none⟩ (.int .u64 (lim y 0))).setCell ⟨W.heap.size + 1,5,none⟩ (.int .u64 (lim y 1))).setCell ⟨W.heap.size + 1,6,none⟩ (.int .u64 (lim y 2))).setCell ⟨W.heap.size + 1,7,none⟩ (.int .u64 (lim y 3)) = w6 at hw6 hp6 ⊢
 have hf6 : w6.heap[f]? = ob (frC F ⟨sv.a,T.length,sv.c⟩) 225:=hp6.obj hf5 (by show (225 : Nat) ∉ []; simp) (by simp; omega)
 have hr6:=hp6.obj hr5 (by show (41 : Nat) ∉ []; simp) (by simp)
 have hs6:=hs5.pres hp6 (by simp) (fun k hk o ho=>by
  obtain rfl : k = W.heap.size + 1:=by simpa using hk
  rw [hw5] at ho
  cases ho
  exact ⟨_,_,_,rfl,by decide⟩)
 clear c0 c1 c2 c3 d0 d1 d2 d3
 have c0:=bq hw6 0 rfl
 have c1:=bq hw6 1 rfl
 have c2:=bq hw6 2 rfl
 have c3:=bq hw6 3 rfl
 have c4:=bq hw6 4 rfl
 have c5:=bq hw6 5 rfl
 have c6:=bq hw6 6 rfl
 have c7:=bq hw6 7 rfl
 have c8:=bq hw6 8 rfl
 have c9:=bq hw6 9 rfl
 have c10:=bq hw6 10 rfl
 have c11:=bq hw6 11 rfl
 rw [rounds_succ]
 go_wp2_with fail
 refine (An8 x y 0 hx hy w6).mono ?_
 rintro e w7 ⟨rfl,hb7⟩
 have hr7:=bk hb7 hr6
 clear c0 c1 c2 c3 c4 c5 c6 c7 c8 c9 c10 c11
 have c0:=bq hr7 0 rfl
 have c1:=bq hr7 1 rfl
 have c2:=bq hr7 2 rfl
 have c3:=bq hr7 3 rfl
 have d0:=Ai hr7 0
 have d1:=Ai hr7 1
 have d2:=Ai hr7 2
 have d3:=Ai hr7 3
 go_wp2
 obtain ⟨r,hr⟩ : ∃ r,(x + y) % M = r:=⟨_,rfl⟩
 rw [hr]
 have hr8:=Cx (.int .u64 (lim r 0)) (.int .u64 (lim r 1)) (.int .u64 (lim r 2)) (.int .u64 (lim r 3)) hr7
 have hp8:=Ei w7 W.heap.size (.int .u64 (lim r 0)) (.int .u64 (lim r 1)) (.int .u64 (lim r 2)) (.int .u64 (lim r 3))
 generalize ((((w7).setCell ⟨W.heap.size,0,none⟩ (.int .u64 (lim r 0))).setCell ⟨W.heap.size,1,none⟩ (.int .u64 (lim r 1))).setCell ⟨W.heap.size,2,none⟩ (.int .u64 (lim r 2))).setCell ⟨W.heap.size,3,none⟩ (.int .u64 (lim r 3)) = w8 at hr8 hp8 ⊢
 clear c0 c1 c2 c3 d0 d1 d2 d3
 have c0:=Ad hr8 0
 have c1:=Ad hr8 1
 have c2:=Ad hr8 2
 have c3:=Ad hr8 3
 simp at c0 c1 c2 c3
 simp [bodyPost,results,Tryz.results335,go_sem,c0,c1,c2,c3]
 have hf7:=bk hb7 hf6
 refine ⟨⟨sv.a,T.length,sv.c⟩,hp8.obj hf7 (by show (225 : Nat) ∉ []; simp) (by simp; omega),⟨Cw (hs6.below hb7).own fun g hg=>?_,hs6.num,Nat.le_trans (hs6.below hb7).low hp8.size⟩,?_⟩
 ·have hgl : g < W.heap.size:=Ed hs.own g ((Ew _ _ _ _ _).trans hg)
  rcases hp8.block g (Ed (hs6.below hb7).own g hg) (by simp; omega) with e | ⟨_,_,_,h0,_⟩
  ·exact e
  ·cases h0
 ·exact ((((((Pres.of_below hb2 [f] []).thenx hp3 (by simp)).thenx hp4 (by simp)).thenx hp5 (by simp)).thenx hp6 (by simp)).thenx (.of_below hb7 [] []) (by simp)).thenx hp8 (by simp)
theorem Zn {W : World} {f : Nat} {F : Frm} {sv : SV} {S : List Nat} (hf : W.heap[f]? = ob (frC F sv) 225) (hs : Stk W sv S) (hS : S.length < 99999) (p : Nat) (hpl : F.place = (p : Int)) (hnx : F.next = (p : Int) + 4) (hp : p < 1000000) (x y z : UInt8) (hx : F.text.data[p + 1]? = some x) (hy : F.text.data[p + 1 + 1]? = some y) (hz : F.text.data[p + 1 + 2]? = some z) :
  Calls TryQ.prog 307 #[pq f 0,.int .u8 98] W fun e w'=>∃ sv' : SV,e = .returned (.tuple #[]) /\ w'.heap[f]? = ob (frC F sv') 225 /\ Stk w' sv' (S ++ [(x.toNat * 65536 + y.toNat * 256 + z.toNat)]) /\ Pres [f] [41] W w':=by
 go_enter TryQ.func307,Tryz.ntmps307
 go_wp2_with fail
 refine rq (fun V=>True) trivial fun hH=>?_
 refine tx 0 36 (pq f 0) hH ?_
 refine tx 1 37 (pq f 0) hH ?_
 refine tx 2 38 (pq f 14) hH ?_
 refine tx 3 39 (pq f 0) hH ?_
 refine r1 4 fun K hK=>?_
 go_simp
 refine (Ak7 (W:=W.drew) hf p hpl hnx hp x y z hx hy hz).mono ?_
 rintro e W1 ⟨rfl,hb1⟩
 go_wp2_with fail
 refine hK.out _ _ trivial fun hH=>?_
 clear hK K
 have hbA : Below W.heap.size W W1:=(Below.refl _ _).drew.trans hb1
 have hf1:=bk hbA hf
 have hs1:=hs.below hbA
 refine r1 5 fun K hK=>?_
 go_simp
 refine (Vb (o:=14) hs1 hf1 (Fz F sv) (by decide) (x.toNat * 65536 + y.toNat * 256 + z.toNat) hS).mono ?_
 rintro e W2 ⟨sv',rfl,hf2,hs2,hp2⟩
 go_wp2_with fail
 refine hK.out _ _ trivial fun hH=>?_
 clear hK K
 refine dn ?_
 go_wp2
 simp [bodyPost,results,Tryz.results307,go_sem]
 exact ⟨sv',hf2,hs2,Pres.trans (.of_below hbA _ _) hp2⟩
theorem Afv {W : World} {f : Nat} {F : Frm} {sv : SV} {T : List Nat} {x y : Nat} (hf : W.heap[f]? = ob (frC F sv) 225) (hs : Stk W sv (T ++ [y] ++ [x])) (hT : T.length < 99999) (hx : x < M) (hy : y < M) :
  Calls TryQ.prog 307 #[pq f 0,.int .u8 1] W fun e w'=>∃ sv' : SV,e = .returned (.tuple #[]) /\ w'.heap[f]? = ob (frC F sv') 225 /\ Stk w' sv' (T ++ [(x + y) % M]) /\ Pres [f] [41] W w':=by
 go_enter TryQ.func307,Tryz.ntmps307
 go_wp2_with fail
 refine rq (fun V=>True) trivial fun hH=>?_
 refine tx 0 16 (pq f 0) hH ?_
 refine tx 1 17 (pq f 0) hH ?_
 refine tx 2 18 (pq f 14) hH ?_
 refine tx 3 19 (pq f 0) hH ?_
 refine tx 4 20 (.int .u8 1) hH ?_
 refine r1 5 fun K hK=>?_
 go_simp
 refine (Aql (W:=W.drew) hf (hs.below (Below.refl _ _).drew) hx hy).mono ?_
 rintro e W1 ⟨sv1,rfl,hf1,hs1,hp1⟩
 go_wp2_with fail
 refine hK.out _ _ trivial fun hH=>?_
 clear hK K
 refine r1 6 fun K hK=>?_
 go_simp
 refine (Vb (o:=14) hs1 hf1 (Fz F sv1) (by decide) ((x + y) % M) hT).mono ?_
 rintro e W2 ⟨sv',rfl,hf2,hs2,hp2⟩
 go_wp2_with fail
 refine hK.out _ _ trivial fun hH=>?_
 clear hK K
 refine dn ?_
 go_wp2
 simp [bodyPost,results,Tryz.results307,go_sem]
 exact ⟨sv',hf2,hs2,Pres.trans (.of_below (Below.refl _ _).drew _ _) (Pres.trans (hp1.mono (fun _ _ h=>h) (fun t h=>by cases h)) hp2)⟩
theorem Arr {W : World} {f : Nat} {R : World -> Prop} (h : Calls TryQ.prog 307 #[pq f 0,.int .u8 98] W fun e w'=>e = .returned (.tuple #[]) /\ R w') :
  Calls TryQ.prog 263 #[pq f 0,.int .u8 98] W fun e w'=>e = .returned .nilIface /\ R w':=by
 go_enter TryQ.func263,Tryz.ntmps263
 go_wp2_with fail
 refine h.mono ?_
 rintro e w1 ⟨rfl,hR⟩
 go_wp2
 go_ret
 exact ⟨rfl,hR⟩
theorem do_1 {W : World} {f : Nat} {R : World -> Prop} (h : Calls TryQ.prog 307 #[pq f 0,.int .u8 1] W fun e w'=>e = .returned (.tuple #[]) /\ R w') :
  Calls TryQ.prog 263 #[pq f 0,.int .u8 1] W fun e w'=>e = .returned .nilIface /\ R w':=by
 go_enter TryQ.func263,Tryz.ntmps263
 go_wp2_with fail
 refine h.mono ?_
 rintro e w1 ⟨rfl,hR⟩
 go_wp2
 go_ret
 exact ⟨rfl,hR⟩
end
end Go.Mark
