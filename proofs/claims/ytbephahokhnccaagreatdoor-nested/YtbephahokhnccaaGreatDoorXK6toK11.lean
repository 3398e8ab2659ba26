import Derived.Test.YtbephahokhnccaaGreatDoorXM4toK5
set_option linter.unusedSectionVars false
set_option maxRecDepth 100000
set_option maxHeartbeats 2000000
namespace Go.Mark
open Go.RowKit Go.Proofs
variable [BaseB]
section
attribute [local go_sem] wd
def Ce (L : AL) (b : Nat) (a : Ac) : AL:=L.map fun q=>if q.2.1 = b then (q.1,b,a) else q
theorem Xu (L : AL) (b : Nat) (a : Ac) : ids (Ce L b a) = ids L:=by
 unfold ids Ce
 rw [List.map_map]
 refine List.map_congr_left fun q _=>?_
 simp only [Function.comp]
 split
 ·rename_i e; subst e; rfl
 ·rfl
theorem Qb (L : AL) (b : Nat) (a : Ac) : (Ce L b a).map (·.1) = L.map (·.1):=by
 unfold Ce
 rw [List.map_map]
 refine List.map_congr_left fun q _=>?_
 simp only [Function.comp]
 split <;> rfl
theorem Li (L : AL) (b : Nat) (a : Ac) : (Ce L b a).map (·.2.1) = L.map (·.2.1):=by
 unfold Ce
 rw [List.map_map]
 refine List.map_congr_left fun q _=>?_
 simp only [Function.comp]
 split
 ·rename_i e; exact e.symm
 ·rfl
theorem Hz {L : AL} (h : (L.map (·.2.1)).Nodup) {p q : Int × Nat × Ac} (hp : p ∈ L) (hq : q ∈ L) (e : p.2.1 = q.2.1) : p = q:=by
 induction L with
 | nil=>cases hp
 | cons r L ih =>
  have hn:=List.nodup_cons.1 h
  rcases List.mem_cons.1 hp with hpe | hp'
  ·subst hpe
   rcases List.mem_cons.1 hq with rfl | hq
   ·rfl
   ·exact absurd (show p.2.1 ∈ L.map (·.2.1) by rw [e]; exact List.mem_map_of_mem (f:=fun x : Int × Nat × Ac=>x.2.1) hq) hn.1
  ·rcases List.mem_cons.1 hq with hqe | hq'
   ·subst hqe; exact absurd (show q.2.1 ∈ L.map (·.2.1) by rw [<- e]; exact List.mem_map_of_mem (f:=fun x : Int × Nat × Ac=>x.2.1) hp') hn.1
   ·exact ih hn.2 hp' hq'
theorem LJ.pres {W W' : World} {l m dm : Nat} {cr : Int} {J : List Value} {T : List TypeId} {B : List Nat} (h : LJ W l m cr dm J) (hp : Pres B T W W') (hT : 128 ∉ T /\ 262 ∉ T) (hB : ∀ k ∈ B,∀ o,W.heap[k]? = some o -> ∃ c t f,o = .cells c t f /\ t ≠ 128 /\ t ≠ 262) : LJ W' l m cr dm J:=by
 obtain ⟨jv,h1,h2⟩:=h.ex
 refine ⟨h.lo,jv,hp.obj h1 hT.1 (fun e=>?_),Cw h2 fun g hg=>?_⟩
 ·obtain ⟨c,t,f,h3,h4,_⟩:=hB l e _ h1
  cases h3
  exact h4 rfl
 ·obtain ⟨cur,hc⟩:=Cj h2 g hg
  refine (hp.obj hc hT.2 (fun e=>?_)).trans hc.symm
  obtain ⟨c,t,f,h3,_,h4⟩:=hB g e _ hc
  cases h3
  exact h4 rfl
theorem Cx {w : World} {b : Nat} {c : Array Value} {t : TypeId} (v0 v1 v2 v3 : Value) (h : w.heap[b]? = ob c t) : ((((w.setCell ⟨b,0,none⟩ v0).setCell ⟨b,1,none⟩ v1).setCell ⟨b,2,none⟩ v2).setCell ⟨b,3,none⟩ v3).heap[b]? = ob ((((c.setIfInBounds 0 v0).setIfInBounds 1 v1).setIfInBounds 2 v2).setIfInBounds 3 v3) t:=Av (Av (Av (Av h)))
theorem Ei (w : World) (b : Nat) (v0 v1 v2 v3 : Value) : Pres [b] [] w ((((w.setCell ⟨b,0,none⟩ v0).setCell ⟨b,1,none⟩ v1).setCell ⟨b,2,none⟩ v2).setCell ⟨b,3,none⟩ v3):=(((Pres.setCell w b 0 v0).trans (Pres.setCell _ b 1 v1)).trans (Pres.setCell _ b 2 v2)).trans (Pres.setCell _ b 3 v3)
theorem LG.pres {W W' : World} {l m : Nat} {dm : Dm} {cr cr' : Int} {L : AL} {J J' : List Value} {T : List TypeId} {B : List Nat} (h : LG W l m dm cr L J) (hlj : LJ W' l m cr' dm.b J') (hp : Pres B T W W') (hT : 136 ∉ T) (hB : ∀ k ∈ B,∀ o,W.heap[k]? = some o -> ∃ c t f,o = .cells c t f /\ t ≠ 136) : LG W' l m dm cr' L J':=by
 have hm : ∀ {κ : Type} {kf : κ -> Value} {r : Nat} {x : List (κ × Value)},MapB kf W r x -> MapB kf W' r x:=fun {κ kf r x} hx=>by
  obtain ⟨es,c,he⟩ : ∃ es c,W.heap[r]? = some (.map es c):=let ⟨es,c,h1,_⟩:=hx; ⟨es,c,h1⟩
  refine hx.same ((hp.obj he trivial (fun e=>?_)).trans he.symm)
  obtain ⟨c,t,f,h1,_⟩:=hB r e _ he
  cases h1
 refine ⟨hlj,hm h.map,hm h.dmap,fun q hq=>hp.obj (h.acc q hq) hT (fun e=>?_),fun q hq=>hm (h.slot q hq),h.nd,h.ndb,h.bal,h.key,h.ndk,h.ndm,h.nms,h.nmd,h.ndd,h.lo,h.mlo⟩
 obtain ⟨c,t,f,h1,h2⟩:=hB _ e _ (h.acc q hq)
 cases h1
 exact h2 rfl
theorem LG.below {W W' : World} {l m : Nat} {dm : Dm} {cr : Int} {L : AL} {J : List Value} (h : LG W l m dm cr L J) (hb : Below W.heap.size W W') : LG W' l m dm cr L J:=by
 refine h.pres ?_ (.of_below hb [] []) (by simp) (fun k hk=>by cases hk)
 obtain ⟨jv,h1,h2⟩:=h.lj.ex
 exact ⟨h.lj.lo,jv,(hb.block _ (Aa h1)).trans h1,own_below h2 hb⟩
theorem LG.set {W W' : World} {l m : Nat} {dm : Dm} {cr : Int} {L : AL} {J J' : List Value} {T : List TypeId} (h : LG W l m dm cr L J) {q : Int × Nat × Ac} (hq : q ∈ L) {a : Ac} (hlj : LJ W' l m cr dm.b J') (hb : W'.heap[q.2.1]? = ob (Bd a) 136) (hp : Pres [l,q.2.1] T W W') (hT : 136 ∉ T) (hms : a.ms = q.2.2.ms /\ a.sl = q.2.2.sl) (hbal : a.bal < M) : LG W' l m dm cr (Ce L q.2.1 a) J':=by
 obtain ⟨jv,hl,_⟩:=h.lj.ex
 have hqb:=h.acc q hq
 have hm : ∀ {κ : Type} {kf : κ -> Value} {r : Nat} {x : List (κ × Value)},MapB kf W r x -> MapB kf W' r x:=fun {κ kf r x} hx=>by
  obtain ⟨es,c,he⟩ : ∃ es c,W.heap[r]? = some (.map es c):=let ⟨es,c,h1,_⟩:=hx; ⟨es,c,h1⟩
  refine hx.same ((hp.obj he trivial ?_).trans he.symm)
  simp only [List.mem_cons,List.not_mem_nil,or_false,not_or]
  exact ⟨Ci he hl (fun e=>by cases e),Ci he hqb (fun e=>by cases e)⟩
 have hcase : ∀ p ∈ Ce L q.2.1 a,(p = (q.1,q.2.1,a)) \/ (p ∈ L /\ p.2.1 ≠ q.2.1):=fun p hp'=>by
  obtain ⟨r,hr,rfl⟩:=List.mem_map.1 hp'
  split
  ·rename_i e
   have:=Hz h.ndb hr hq e
   subst this
   exact .inl rfl
  ·rename_i hne
   exact .inr ⟨hr,hne⟩
 have hmse : (Ce L q.2.1 a).map (·.2.2.ms) = L.map (·.2.2.ms):=by
  unfold Ce
  rw [List.map_map]
  refine List.map_congr_left fun r hr=>?_
  simp only [Function.comp]
  split
  ·rename_i e
   have:=Hz h.ndb hr hq e
   subst this
   exact hms.1
  ·rfl
 refine ⟨hlj,by rw [Xu]; exact hm h.map,hm h.dmap,fun p hp'=>?_,fun p hp'=>?_,by rw [Qb]; exact h.nd,by rw [Li]; exact h.ndb,fun p hp'=>?_,fun p hp'=>?_,fun p hp'=>?_,by rw [hmse]; exact h.ndm,fun p hp'=>?_,h.nmd,h.ndd,fun p hp'=>?_,h.mlo⟩
 ·rcases hcase p hp' with rfl | ⟨hr,hne⟩
  ·exact hb
  ·refine hp.obj (h.acc p hr) hT ?_
   simp only [List.mem_cons,List.not_mem_nil,or_false,not_or]
   exact ⟨Bc (h.acc p hr) hl (by decide),hne⟩
 ·rcases hcase p hp' with rfl | ⟨hr,_⟩
  ·show MapB wd W' a.ms (slotL a.sl)
   rw [hms.1,hms.2]; exact hm (h.slot q hq)
  ·exact hm (h.slot p hr)
 ·rcases hcase p hp' with rfl | ⟨hr,_⟩
  ·exact hbal
  ·exact h.bal p hr
 ·rcases hcase p hp' with rfl | ⟨hr,_⟩
  ·show ∀ r ∈ a.sl,_
   rw [hms.2]; exact h.key q hq
  ·exact h.key p hr
 ·rcases hcase p hp' with rfl | ⟨hr,_⟩
  ·show (a.sl.map (·.1)).Nodup
   rw [hms.2]; exact h.ndk q hq
  ·exact h.ndk p hr
 ·rcases hcase p hp' with rfl | ⟨hr,_⟩
  ·show a.ms ≠ m /\ a.ms ≠ dm.b
   rw [hms.1]; exact h.nms q hq
  ·exact h.nms p hr
 ·rcases hcase p hp' with rfl | ⟨hr,_⟩
  ·show BaseB.b0 <= q.2.1 /\ BaseB.b0 <= a.ms
   rw [hms.1]; exact h.lo q hq
  ·exact h.lo p hr
def Hg (b : Nat) (x : Nat) : Value:=.iface 212 (.agg #[pq b 0,.int .u64 (lim x 0),.int .u64 (lim x 1),.int .u64 (lim x 2),.int .u64 (lim x 3)])
def Ve (b : Nat) (x : Int) : Value:=.iface 229 (.agg #[pq b 0,.int .i64 x])
section
variable {W : World} {l m : Nat} {dm : Dm} {cr : Int} {L : AL} {J : List Value}
theorem Kt (h : LG W l m dm cr L J) {q : Int × Nat × Ac} (hq : q ∈ L) (x : Nat) (hx : x < M) (hJ : J.length < 1000000) :
  Calls TryQ.prog 88 #[pq l 0,pq q.2.1 0,wd x] W fun e w'=>e = .returned (.tuple #[]) /\ LG w' l m dm cr (Ce L q.2.1 { q.2.2 with bal:=x }) (J ++ [Hg q.2.1 q.2.2.bal]) /\ Pres [l,q.2.1] [262] W w':=by
 have hbx : Below W.heap.size W (W.alloc (.cells (wq x) 41)):=ba
 have h1:=h.below hbx
 have hn:=Al W (.cells (wq x) 41)
 have hq1:=h1.acc q hq
 have hne : q.2.1 ≠ l:=by obtain ⟨jv,hl,_⟩:=h1.lj.ex; exact Bc hq1 hl (by decide)
 have c0:=bq hq1 0 rfl
 have c1:=bq hq1 1 rfl
 have c2:=bq hq1 2 rfl
 have c3:=bq hq1 3 rfl
 have hnt:=note l m cr dm.b J 212 (.agg #[pq q.2.1 0,.int .u64 (lim q.2.2.bal 0),.int .u64 (lim q.2.2.bal 1),.int .u64 (lim q.2.2.bal 2),.int .u64 (lim q.2.2.bal 3)]) _ h1.lj hJ
 go_enter TryQ.func88,Tryz.ntmps88
 go_wp2_with fail
 refine hnt.mono ?_
 rintro e w2 ⟨rfl,hlj2,hp2⟩
 clear c0 c1 c2 c3 hnt
 have hq2 : w2.heap[q.2.1]? = _:=hp2.obj hq1 (by show (136 : Nat) ∉ [262]; decide) (by simpa using hne)
 have hn2 : w2.heap[W.heap.size]? = _:=hp2.obj hn (by show (41 : Nat) ∉ [262]; decide) (by obtain ⟨jv,hl,_⟩:=h.lj.ex; simp; have:=Aa hl; omega)
 have c0:=bq hq2 0 rfl
 have c1:=bq hq2 1 rfl
 have c2:=bq hq2 2 rfl
 have c3:=bq hq2 3 rfl
 have f0:=Ai hq2 0
 have f1:=Ai hq2 1
 have f2:=Ai hq2 2
 have f3:=Ai hq2 3
 have n0:=bq hn2 0 rfl
 have n1:=bq hn2 1 rfl
 have n2:=bq hn2 2 rfl
 have n3:=bq hn2 3 rfl
 go_wp2
 simp [bodyPost,results,Tryz.results88,go_sem]
 have hp3:=Ei w2 q.2.1 (.int .u64 (lim x 0)) (.int .u64 (lim x 1)) (.int .u64 (lim x 2)) (.int .u64 (lim x 3))
 have hb3:=Cx (.int .u64 (lim x 0)) (.int .u64 (lim x 1)) (.int .u64 (lim x 2)) (.int .u64 (lim x 3)) hq2
 have hlj3:=hlj2.pres hp3 (by decide) (fun k hk o ho=>by
  obtain rfl : k = q.2.1:=by simpa using hk
  rw [hq2] at ho
  cases ho
  exact ⟨_,_,_,rfl,by decide,by decide⟩)
 have hpA : Pres [l,q.2.1] [262] W _:=Pres.trans (.of_below hbx _ _) (Pres.trans (hp2.mono (fun k _ hk=>by simp at hk; simp [hk]) (fun t ht=>ht)) (hp3.mono (fun k _ hk=>by simp at hk; simp [hk]) (fun t ht=>by cases ht)))
 exact ⟨h.set hq (a:={ q.2.2 with bal:=x }) hlj3 hb3 hpA (by decide) ⟨rfl,rfl⟩ hx,hpA⟩
end
end
section
attribute [local go_sem] wd
section
variable (x0 x1 x2 x3 x4 x5 x6 x7 : Value) (W : World)
theorem fd0 : (Instr.field 136 (.agg #[x0,x1,x2,x3,x4,x5,x6,x7]) 0).run TryQ.prog W = .ok (.agg #[x0,x1,x2,x3]) W:=by kernel_rfl
theorem fd1 : (Instr.field 136 (.agg #[x0,x1,x2,x3,x4,x5,x6,x7]) 1).run TryQ.prog W = .ok x4 W:=by kernel_rfl
end
section
variable {W : World} {l m : Nat} {dm : Dm} {cr : Int} {L : AL} {J : List Value}
theorem Alf (h : LG W l m dm cr L J) {q : Int × Nat × Ac} (hq : q ∈ L) :
  Calls TryQ.prog 83 #[pq l 0,.int .i64 q.1] W fun e w'=>e = .returned (.int .i64 q.2.2.nonce) /\ Below W.heap.size W w':=by
 have hk:=Pq h hq
 clear h hq
 go_enter TryQ.func83,Tryz.ntmps83
 go_wp2_with fail
 refine hk.mono ?_
 rintro e w1 ⟨rfl,hb⟩
 clear hk
 have hf:=fun x0 x1 x2 x3 x4 x5 x6 x7=>fd1 x0 x1 x2 x3 x4 x5 x6 x7 w1
 unfold Bd
 go_wp2
 go_ret
 exact ⟨rfl,hb⟩
theorem Ny (h : LG W l m dm cr L J) {q : Int × Nat × Ac} (hq : q ∈ L) :
  Calls TryQ.prog 86 #[pq l 0,.int .i64 q.1] W fun e w'=>e = .returned (wd q.2.2.bal) /\ Below W.heap.size W w':=by
 have hb0 : Below W.heap.size W (W.alloc (.cells wz 41)):=ba
 have hk:=Pq (h.below hb0) hq
 have hn:=Al W (.cells wz 41)
 clear h hq
 go_enter TryQ.func86,Tryz.ntmps86
 go_wp2_with fail
 refine hk.mono ?_
 rintro e w1 ⟨rfl,hb⟩
 clear hk
 have hf:=fun x0 x1 x2 x3 x4 x5 x6 x7=>fd0 x0 x1 x2 x3 x4 x5 x6 x7 w1
 have hn1:=bk hb hn
 have hsz:=Aa hn1
 have n0:=bq hn1 0 rfl
 have n1:=bq hn1 1 rfl
 have n2:=bq hn1 2 rfl
 have n3:=bq hn1 3 rfl
 have f0:=Ai hn1 0
 have f1:=Ai hn1 1
 have f2:=Ai hn1 2
 have f3:=Ai hn1 3
 unfold Bd
 go_wp2
 simp [bodyPost,results,Tryz.results86,go_sem,n0,n1,n2,n3]
 exact (((((hb0.trans (hb.mono hb0.size)).setCell (by dsimp only; omega) _).setCell (by dsimp only; omega) _).setCell (by dsimp only; omega) _).setCell (by dsimp only; omega) _)
end
end
section
attribute [local go_sem] wd
section
variable {W : World} {l m : Nat} {dm : Dm} {cr : Int} {L : AL} {J : List Value}
theorem Aaa (h : LG W l m dm cr L J) {q : Int × Nat × Ac} (hq : q ∈ L) (x : Nat) (hx : x < M) (hJ : J.length < 1000000) :
  Calls TryQ.prog 49 #[pq l 0,.int .i64 q.1,wd x] W fun e w'=>e = .returned (.tuple #[]) /\ LG w' l m dm cr (Ce L q.2.1 { q.2.2 with bal:=(q.2.2.bal + M - x) % M }) (J ++ [Hg q.2.1 q.2.2.bal]) /\ Pres [l,q.2.1] [262] W w':=by
 have hqb:=h.bal q hq
 have hv : (q.2.2.bal + M - x) % M < M:=Nat.mod_lt _ (by decide)
 have hbx : Below W.heap.size W (W.alloc (.cells (wq x) 41)):=ba
 have hL1:=h.below hbx
 have hn:=Al W (.cells (wq x) 41)
 have hto:=Jn hL1 hq
 go_enter TryQ.func49,Tryz.ntmps49
 go_wp2_with fail
 refine hto.mono ?_
 rintro e w1 ⟨rfl,hw1⟩
 rw [<- hw1] at hL1 hn hbx
 clear hto hw1
 have hq1:=hL1.acc q hq
 have hql:=Aa hq1
 have c0:=bq hq1 0 rfl
 have c1:=bq hq1 1 rfl
 have c2:=bq hq1 2 rfl
 have c3:=bq hq1 3 rfl
 have hl1:=hL1.cell0.1
 have hqn : q.2.1 < W.heap.size:=Aa (h.acc q hq)
 have hln:=h.cell0.1
 go_wp2_with fail
 refine rq (fun V=>V.heap[W.heap.size]? = ob (wq x) 41) hn fun hH=>?_
 refine tx 0 10 (pq l 0) hH ?_
 refine tx 1 11 (pq q.2.1 0) hH ?_
 refine tx 2 12 (pq q.2.1 0) hH ?_
 refine tx 3 13 (pq q.2.1 0) hH ?_
 refine tx 4 14 (pq q.2.1 0) hH ?_
 refine tv 6 16 (wd x) (fun _ hW=>aq (bq hW 0 rfl) (aq (bq hW 1 rfl) (aq (bq hW 2 rfl) (bq hW 3 rfl)))) hH ?_
 refine r1 5 fun K hK=>?_
 go_simp
 refine hK.out _ _ hH fun hH=>?_
 clear hK K
 clear c0 c1 c2 c3
 refine r1 7 fun K hK=>?_
 go_simp
 refine (sub q.2.2.bal x hqb hx _).mono ?_
 rintro e W1 ⟨rfl,hbn⟩
 go_wp2_with fail
 refine hK.out _ _ ((hbn.block _ (Aa hH)).trans hH) fun hH=>?_
 clear hK K
 have hb1 : Below w1.heap.size w1 W1:=(Below.refl _ _).drew.trans hbn
 have hLW:=hL1.below hb1
 refine r1 8 fun K hK=>?_
 go_simp
 refine (Kt hLW hq ((q.2.2.bal + M - x) % M) hv hJ).mono ?_
 rintro e W2 ⟨rfl,hL2,hp2⟩
 go_wp2_with fail
 refine hK.out _ _ (hp2.obj hH (by show (41 : Nat) ∉ [262]; decide) (by simp; omega)) fun hH=>?_
 clear hK K
 refine dn ?_
 show bodyPost TryQ.prog Tryz.f49 _ Exit.normal _ _
 simp [bodyPost,results,Tryz.results49,go_sem]
 exact ⟨hL2,Pres.trans (.of_below (hbx.trans (hb1.mono hbx.size)) _ _) hp2⟩
theorem Vg (h : LG W l m dm cr L J) {q : Int × Nat × Ac} (hq : q ∈ L) (x : Nat) (hx : x < M) (hJ : J.length < 1000000) :
  Calls TryQ.prog 94 #[pq l 0,.int .i64 q.1,wd x] W fun e w'=>e = .returned (.tuple #[]) /\ LG w' l m dm cr (Ce L q.2.1 { q.2.2 with bal:=(q.2.2.bal + x) % M }) (J ++ [Hg q.2.1 q.2.2.bal]) /\ Pres [l,q.2.1] [262] W w':=by
 have hqb:=h.bal q hq
 have hv : (q.2.2.bal + x) % M < M:=Nat.mod_lt _ (by decide)
 have hbx : Below W.heap.size W (W.alloc (.cells (wq x) 41)):=ba
 have hL1:=h.below hbx
 have hn:=Al W (.cells (wq x) 41)
 have hto:=Jn hL1 hq
 go_enter TryQ.func94,Tryz.ntmps94
 go_wp2_with fail
 refine hto.mono ?_
 rintro e w1 ⟨rfl,hw1⟩
 rw [<- hw1] at hL1 hn hbx
 clear hto hw1
 have hq1:=hL1.acc q hq
 have hql:=Aa hq1
 have c0:=bq hq1 0 rfl
 have c1:=bq hq1 1 rfl
 have c2:=bq hq1 2 rfl
 have c3:=bq hq1 3 rfl
 have hl1:=hL1.cell0.1
 have hqn : q.2.1 < W.heap.size:=Aa (h.acc q hq)
 have hln:=h.cell0.1
 go_wp2_with fail
 refine rq (fun V=>V.heap[W.heap.size]? = ob (wq x) 41) hn fun hH=>?_
 refine tx 0 10 (pq l 0) hH ?_
 refine tx 1 11 (pq q.2.1 0) hH ?_
 refine tx 2 12 (pq q.2.1 0) hH ?_
 refine tx 3 13 (pq q.2.1 0) hH ?_
 refine tx 4 14 (pq q.2.1 0) hH ?_
 refine tv 6 16 (wd x) (fun _ hW=>aq (bq hW 0 rfl) (aq (bq hW 1 rfl) (aq (bq hW 2 rfl) (bq hW 3 rfl)))) hH ?_
 refine r1 5 fun K hK=>?_
 go_simp
 refine hK.out _ _ hH fun hH=>?_
 clear hK K
 clear c0 c1 c2 c3
 refine r1 7 fun K hK=>?_
 go_simp
 refine (add q.2.2.bal x hqb hx _).mono ?_
 rintro e W1 ⟨rfl,hbn⟩
 go_wp2_with fail
 refine hK.out _ _ ((hbn.block _ (Aa hH)).trans hH) fun hH=>?_
 clear hK K
 have hb1 : Below w1.heap.size w1 W1:=(Below.refl _ _).drew.trans hbn
 have hLW:=hL1.below hb1
 refine r1 8 fun K hK=>?_
 go_simp
 refine (Kt hLW hq ((q.2.2.bal + x) % M) hv hJ).mono ?_
 rintro e W2 ⟨rfl,hL2,hp2⟩
 go_wp2_with fail
 refine hK.out _ _ (hp2.obj hH (by show (41 : Nat) ∉ [262]; decide) (by simp; omega)) fun hH=>?_
 clear hK K
 refine dn ?_
 show bodyPost TryQ.prog Tryz.f94 _ Exit.normal _ _
 simp [bodyPost,results,Tryz.results94,go_sem]
 exact ⟨hL2,Pres.trans (.of_below (hbx.trans (hb1.mono hbx.size)) _ _) hp2⟩
end
end
section
attribute [local go_sem] wd
theorem Fx {L : AL} {q : Int × Nat × Ac} (hq : q ∈ L) (a : Ac) : (q.1,q.2.1,a) ∈ Ce L q.2.1 a:=List.mem_map.2 ⟨q,hq,by simp⟩
theorem Ev {L : AL} {q : Int × Nat × Ac} (hq : q ∈ L) {b : Nat} (hne : q.2.1 ≠ b) (a : Ac) : q ∈ Ce L b a:=List.mem_map.2 ⟨q,hq,by rw [if_neg hne]⟩
section
variable {W : World} {l m : Nat} {dm : Dm} {cr : Int} {L : AL} {J : List Value}
theorem Aoa (h : LG W l m dm cr L J) :
  Calls TryQ.prog 221 #[pq l 0] W fun e w'=>e = .returned (.int .i64 (J.length : Int)) /\ w' = W:=by
 obtain ⟨jv,ho,hown⟩:=h.lj.ex
 have hn : jv.n = J.length:=by
  rcases hown.2 with ⟨h1,h2⟩ | ⟨g,cap,cur,h1,_⟩
  ·simp only [Value.slice.injEq] at h1; omega
  ·simp only [Value.slice.injEq] at h1; exact h1.2.1
 have c2:=bq ho 2 rfl
 rw [hn] at c2
 have hlt:=Aa ho
 clear h ho hown hn
 go_enter TryQ.func221,Tryz.ntmps221
 go_wp2
 go_ret
 exact ⟨rfl,rfl⟩
theorem Ak4 (h : LG W l m dm cr L J) {q : Int × Nat × Ac} (hq : q ∈ L) (hn : 0 <= q.2.2.nonce) (hn' : q.2.2.nonce < 4611686018427387905) (hJ : J.length < 1000000) :
  Calls TryQ.prog 91 #[pq l 0,.int .i64 q.1] W fun e w'=>e = .returned (.tuple #[]) /\ LG w' l m dm cr (Ce L q.2.1 { q.2.2 with nonce:=q.2.2.nonce + 1 }) (J ++ [Ve q.2.1 q.2.2.nonce]) /\ Pres [l,q.2.1] [262] W w':=by
 have hto:=Jn h hq
 have hq1:=h.acc q hq
 have hql:=Aa hq1
 have hne : q.2.1 ≠ l:=by obtain ⟨jv,hl,_⟩:=h.lj.ex; exact Bc hq1 hl (by decide)
 have c4:=bq hq1 4 rfl
 have hnt:=note l m cr dm.b J 229 (.agg #[pq q.2.1 0,.int .i64 q.2.2.nonce]) _ h.lj hJ
 have hbal:=h.bal q hq
 have hwr : IntKind.i64.wrap (q.2.2.nonce + 1) = q.2.2.nonce + 1:=IntWalk.i64_in _ ⟨by omega,by omega⟩
 go_enter TryQ.func91,Tryz.ntmps91
 go_wp2_with fail
 refine hto.mono ?_
 rintro e w1 ⟨rfl,hw1⟩
 subst hw1
 clear hto
 go_wp2_with fail
 refine hnt.mono ?_
 rintro e w2 ⟨rfl,hlj2,hp2⟩
 clear hnt c4
 have hq2 : w2.heap[q.2.1]? = _:=hp2.obj hq1 (by show (136 : Nat) ∉ [262]; decide) (by simpa using hne)
 have c4:=bq hq2 4 rfl
 have f4:=Ai hq2 4
 go_wp2
 simp [bodyPost,results,Tryz.results91,go_sem]
 have hp3:=Pres.setCell w2 q.2.1 4 (.int .i64 (q.2.2.nonce + 1))
 have hb3:=Av (i:=4) (v:=.int .i64 (q.2.2.nonce + 1)) hq2
 have hlj3:=hlj2.pres hp3 (by decide) (fun k hk o ho=>by
  obtain rfl : k = q.2.1:=by simpa using hk
  rw [hq2] at ho
  cases ho
  exact ⟨_,_,_,rfl,by decide,by decide⟩)
 have hpA : Pres [l,q.2.1] [262] w1 _:=Pres.trans (hp2.mono (fun k _ hk=>by simp at hk; simp [hk]) (fun t ht=>ht)) (hp3.mono (fun k _ hk=>by simp at hk; simp [hk]) (fun t ht=>by cases ht))
 exact ⟨h.set hq (a:={ q.2.2 with nonce:=q.2.2.nonce + 1 }) hlj3 hb3 hpA (by decide) ⟨rfl,rfl⟩ hbal,hpA⟩
end
end
section
attribute [local go_sem] wd
section
variable {W : World} {l m : Nat} {dm : Dm} {cr : Int} {L : AL} {J : List Value}
theorem Adt (h : LG W l m dm cr L J) {q : Int × Nat × Ac} (hq : q ∈ L) :
  Calls TryQ.prog 140 #[pq l 0,.int .i64 q.1] W fun e w'=>e = .returned (.tuple #[.string q.2.2.code,.slice q.2.2.mark.a q.2.2.mark.n q.2.2.mark.c]) /\ Below W.heap.size W w':=by
 have hk:=Pq h hq
 clear h hq
 go_enter TryQ.func140,Tryz.ntmps140
 go_wp2_with fail
 refine hk.mono ?_
 rintro e w1 ⟨rfl,hb⟩
 clear hk
 have hn:=Al w1 (.cells (Bd q.2.2) 136)
 have hb2 : Below w1.heap.size w1 (w1.alloc (.cells (Bd q.2.2) 136)):=ba
 unfold Bd
 go_wp2_with fail
 change Code.wp _ _ _ _ (w1.alloc (.cells (Bd q.2.2) 136))
 refine rq (fun V=>V.heap[w1.heap.size]? = ob (Bd q.2.2) 136) hn fun hH=>?_
 refine tx 0 10 (pq w1.heap.size 5) hH ?_
 refine tx 2 12 (pq w1.heap.size 6) hH ?_
 refine tv 1 11 (.string q.2.2.code) (fun _ hW=>bq hW 5 rfl) hH ?_
 refine tv 3 13 (.slice q.2.2.mark.a q.2.2.mark.n q.2.2.mark.c) (fun _ hW=>bq hW 6 rfl) hH ?_
 refine tx 4 4 (.string q.2.2.code) hH ?_
 refine tx 5 5 (.slice q.2.2.mark.a q.2.2.mark.n q.2.2.mark.c) hH ?_
 refine dn ?_
 go_wp2
 simp [bodyPost,results,Tryz.results140,go_sem]
 exact hb.trans (hb2.drew.mono hb.size)
theorem Akv (h : LG W l m dm cr L J) {q p : Int × Nat × Ac} (hq : q ∈ L) (hp : p ∈ L) (hne : q.2.1 ≠ p.2.1) (x : Nat) (hx : x < M) (hJ : J.length + 1 < 1000000) :
  Calls TryQ.prog 136 #[pq l 0,.int .i64 q.1,.int .i64 p.1,wd x] W fun e w'=>e = .returned (.tuple #[]) /\ LG w' l m dm cr (Ce (Ce L q.2.1 { q.2.2 with bal:=(q.2.2.bal + M - x) % M }) p.2.1 { p.2.2 with bal:=(p.2.2.bal + x) % M }) (J ++ [Hg q.2.1 q.2.2.bal] ++ [Hg p.2.1 p.2.2.bal]) /\ Pres [l,q.2.1,p.2.1] [262] W w':=by
 have hbx : Below W.heap.size W (W.alloc (.cells (wq x) 41)):=ba
 have hn:=Al W (.cells (wq x) 41)
 have hL1:=h.below hbx
 have htk:=Aaa hL1 hq x hx (by omega)
 have hln:=h.cell0.1
 have hqn:=Aa (h.acc q hq)
 have hpn:=Aa (h.acc p hp)
 go_enter TryQ.func136,Tryz.ntmps136
 go_wp2_with fail
 refine htk.mono ?_
 rintro e w1 ⟨rfl,hL2,hp1⟩
 have hn1 : w1.heap[W.heap.size]? = _:=hp1.obj hn (by show (41 : Nat) ∉ [262]; decide) (by simp; omega)
 have n0:=bq hn1 0 rfl
 have n1:=bq hn1 1 rfl
 have n2:=bq hn1 2 rfl
 have n3:=bq hn1 3 rfl
 have hgv:=Vg hL2 (Ev hp (fun e=>hne e.symm) _) x hx (by simp; omega)
 clear htk
 go_wp2_with fail
 refine hgv.mono ?_
 rintro e w2 ⟨rfl,hL3,hp2⟩
 clear hgv n0 n1 n2 n3
 go_wp2
 simp [bodyPost,results,Tryz.results136,go_sem]
 refine ⟨by simpa using hL3,Pres.trans (.of_below hbx _ _) (Pres.trans (hp1.mono (fun k _ hk=>by simp at hk; simp; omega) (fun t ht=>ht)) (hp2.mono (fun k _ hk=>by simp at hk; simp; omega) (fun t ht=>ht)))⟩
end
end
section
attribute [local go_sem] wd
def Aj (l : Nat) (lg : SV) (back depth : Int) : Array Value:=#[pq l 0,.slice lg.a lg.n lg.c,.int .i64 back,.int .i64 depth]
section
variable {W : World} {l m mc : Nat} {dm : Dm} {cr : Int} {L : AL} {J : List Value} {lg : SV} {back depth : Int}
theorem Acf (h : LG W l m dm cr L J) {q : Int × Nat × Ac} (hq : q ∈ L) (x : Nat) (hx : x < M) (hle : x <= q.2.2.bal) :
  Calls TryQ.prog 175 #[pq l 0,.int .i64 q.1,wd x] W fun e w'=>e = .returned .nilIface /\ Below W.heap.size W w':=by
 have hbx : Below W.heap.size W (W.alloc (.cells (wq x) 41)):=ba
 have hn:=Al W (.cells (wq x) 41)
 have hL1:=h.below hbx
 have hqb:=h.bal q hq
 have hd : decide (q.2.2.bal < x) = false:=by simp; omega
 go_enter TryQ.func175,Tryz.ntmps175
 go_wp2_with fail
 change Code.wp _ _ _ _ (W.alloc (.cells (wq x) 41))
 refine rq (fun V=>V.heap[W.heap.size]? = ob (wq x) 41) hn fun hH=>?_
 refine tx 0 7 (pq l 0) hH ?_
 refine tx 1 8 (.int .i64 q.1) hH ?_
 refine tv 3 10 (wd x) (fun _ hW=>aq (bq hW 0 rfl) (aq (bq hW 1 rfl) (aq (bq hW 2 rfl) (bq hW 3 rfl)))) hH ?_
 refine r1 2 fun K hK=>?_
 go_simp
 refine (Ny (hL1.below (Below.refl _ _).drew) hq).mono ?_
 rintro e W1 ⟨rfl,hbn⟩
 go_wp2_with fail
 refine hK.out _ _ ((hbn.block _ (Aa hH)).trans hH) fun hH=>?_
 clear hK K
 refine r1 4 fun K hK=>?_
 go_simp
 refine (less q.2.2.bal x hqb hx _).mono ?_
 rintro e W2 ⟨rfl,hbm⟩
 go_wp2_with fail
 refine hK.out _ _ ((hbm.block _ (Aa hH)).trans hH) fun hH=>?_
 clear hK K
 refine dn ?_
 go_wp2
 go_ret
 exact ⟨rfl,hbx.trans (((Below.refl _ _).drew.trans (hbn.trans (hbm.mono hbn.size))).mono hbx.size)⟩
theorem Lx (h : LG W l m dm cr L J) (hm : W.heap[mc]? = ob (Aj l lg back depth) 165) (hdp : depth ≠ 64) {q : Int × Nat × Ac} (hq : q ∈ L) (x : Nat) (hx : x < M) (hle : x <= q.2.2.bal) :
  Calls TryQ.prog 133 #[pq mc 0,.int .i64 q.1,wd x] W fun e w'=>e = .returned .nilIface /\ Below W.heap.size W w':=by
 have hbx : Below W.heap.size W (W.alloc (.cells (wq x) 41)):=ba
 have hn:=Al W (.cells (wq x) 41)
 have hL1:=h.below hbx
 have hml:=Aa hm
 have hm1:=Aw (p:=.cells (wq x) 41) hm
 have c3:=bq hm 3 rfl
 go_enter TryQ.func133,Tryz.ntmps133
 go_wp2_with fail
 clear c3
 change Code.wp _ _ _ _ (W.alloc (.cells (wq x) 41))
 refine rq (fun V=>V.heap[W.heap.size]? = ob (wq x) 41 /\ V.heap[mc]? = ob (Aj l lg back depth) 165) ⟨hn,hm1⟩ fun hH=>?_
 refine tx 0 13 (pq mc 0) hH ?_
 refine tx 1 14 (pq mc 0) hH ?_
 refine tx 2 15 (pq mc 0) hH ?_
 refine tv 3 16 (pq l 0) (fun _ hW=>bq hW.2 0 rfl) hH ?_
 refine tx 4 17 (.int .i64 q.1) hH ?_
 refine tv 5 18 (wd x) (fun _ hW=>aq (bq (hW.1) 0 rfl) (aq (bq (hW.1) 1 rfl) (aq (bq (hW.1) 2 rfl) (bq (hW.1) 3 rfl)))) hH ?_
 refine r1 6 fun K hK=>?_
 go_simp
 refine (Acf (hL1.below (Below.refl _ _).drew) hq x hx hle).mono ?_
 rintro e W1 ⟨rfl,hbn⟩
 go_wp2_with fail
 refine hK.out _ _ ⟨(hbn.block _ (Aa hH.1)).trans hH.1,(hbn.block _ (Aa hH.2)).trans hH.2⟩ fun hH=>?_
 clear hK K
 refine tx 7 6 .nilIface hH ?_
 refine dn ?_
 go_wp2
 go_ret
 exact ⟨rfl,hbx.trans (((Below.refl _ _).drew.trans hbn).mono hbx.size)⟩
theorem Aob (h : LG W l m dm cr L J) (hm : W.heap[mc]? = ob (Aj l lg back depth) 165) :
  Calls TryQ.prog 176 #[pq mc 0] W fun e w'=>e = .returned (.agg #[.int .i64 (J.length : Int),.int .i64 (lg.n : Int),.int .i64 back]) /\ Below W.heap.size W w':=by
 have hbx : Below W.heap.size W (W.alloc (.cells #[.int .i64 0,.int .i64 0,.int .i64 0] 221)):=ba
 have hn:=Al W (.cells #[.int .i64 0,.int .i64 0,.int .i64 0] 221)
 have hL1:=h.below hbx
 have hm1:=Aw (p:=.cells #[.int .i64 0,.int .i64 0,.int .i64 0] 221) hm
 go_enter TryQ.func176,Tryz.ntmps176
 go_wp2_with fail
 change Code.wp _ _ _ _ (W.alloc (.cells #[.int .i64 0,.int .i64 0,.int .i64 0] 221))
 refine rq (fun V=>V.heap[mc]? = ob (Aj l lg back depth) 165 /\ LG V l m dm cr L J) ⟨hm1,hL1.below (Below.refl _ _).drew⟩ fun hH=>?_
 refine tx 0 3 (pq mc 0) hH ?_
 refine tx 1 4 (pq mc 0) hH ?_
 refine tx 2 5 (pq mc 0) hH ?_
 refine tv 3 6 (pq l 0) (fun _ hW=>bq hW.1 0 rfl) hH ?_
 refine tx 5 8 (pq mc 0) hH ?_
 refine tx 6 9 (pq mc 0) hH ?_
 refine tx 7 10 (pq mc 1) hH ?_
 refine tv 8 11 (.slice lg.a lg.n lg.c) (fun _ hW=>bq hW.1 1 rfl) hH ?_
 refine tx 9 12 (.int .i64 (lg.n : Int)) hH ?_
 refine tx 10 13 (pq mc 0) hH ?_
 refine tx 11 14 (pq mc 0) hH ?_
 refine tx 12 15 (pq mc 2) hH ?_
 refine tv 13 16 (.int .i64 back) (fun _ hW=>bq hW.1 2 rfl) hH ?_
 refine r1 4 fun K hK=>?_
 go_simp
 refine (Aoa hH.2).mono ?_
 rintro e W1 ⟨rfl,hw⟩
 subst hw
 go_wp2_with fail
 refine hK.out _ _ hH fun hH=>?_
 clear hK K
 refine tx 14 17 (.agg #[.int .i64 (J.length : Int),.int .i64 (lg.n : Int),.int .i64 back]) hH ?_
 refine r1 15 fun K hK=>?_
 go_simp
 refine hK.out _ _ ⟨Aw hm,h.below ba.drew⟩ fun hH=>?_
 clear hK K
 refine dn ?_
 go_wp2
 simp [bodyPost,results,Tryz.results176,go_sem]
 exact ba.drew
end
end
end Go.Mark
