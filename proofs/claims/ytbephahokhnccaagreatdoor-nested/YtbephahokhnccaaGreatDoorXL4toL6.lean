import Derived.Test.YtbephahokhnccaaGreatDoorXL2toL3
set_option linter.unusedSectionVars false
set_option maxRecDepth 100000
set_option maxHeartbeats 8000000
namespace Go.Mark
open Go.RowKit Go.Proofs
theorem Jt {α β : Type} (f : α -> β) : ∀ (l : List α) (n : Nat),(l.eraseIdx n).map f = (l.map f).eraseIdx n
  | [],_=>rfl
  | _ :: _,0=>rfl
  | x :: l,n + 1=>by simp [Jt f l n]
section
variable {κ : Type} [DecidableEq κ]
def U4 (k : κ) : List (κ × Value) -> List (κ × Value)
  | []=>[]
  | p :: l=>if k = p.1 then l else p :: U4 k l
theorem Uw {k : κ} : ∀ {l : List (κ × Value)} {i : Nat},Ct k l i = none -> U4 k l = l
  | [],_,_=>rfl
  | p :: l,i,h=>by
    unfold Ct at h
    split at h
    · cases h
    · rename_i hne
      unfold U4
      rw [if_neg hne,Uw h]
theorem Uv {k : κ} : ∀ {l : List (κ × Value)} {i j : Nat} {x : Value},Ct k l i = some (j,x) -> ∃ n,j = i + n /\ U4 k l = l.eraseIdx n
  | [],_,_,_,h=>by cases h
  | p :: l,i,j,x,h=>by
    unfold Ct at h
    unfold U4
    split at h
    · rename_i he
      cases h
      exact ⟨0,rfl,by rw [if_pos he]; rfl⟩
    · rename_i hne
      obtain ⟨n,h1,h2⟩:=Uv h
      exact ⟨n + 1,by omega,by rw [if_neg hne,h2]; rfl⟩
theorem Y1 {kt et mt ty : TypeId} {kf : κ -> Value} {ok : κ -> Prop} (K : Keys kt kf ok) (hm : TryQ.prog.underlying mt = some (.map kt et)) {w : World} {r : Nat} {l : List (κ × Value)} {k : κ} (hM : MapB kf w r l) (hk : ok k) (hl : ∀ p ∈ l,ok p.1) :
    ∃ o,(Builtin.delete_ #[mt,kt] ty #[.map (some r),kf k]).run TryQ.prog w = .ok (.tuple #[]) { w with heap:=w.heap.setIfInBounds r o } /\ MapB kf { w with heap:=w.heap.setIfInBounds r o } r (U4 k l):=by
  obtain ⟨es,clock,hb,hR,hS⟩:=hM
  have hf:=K.find k es.toList l w hk hl hR
  have hlt : r < w.heap.size:=(Array.getElem?_eq_some_iff.1 hb).1
  have hset : ∀ o : Obj,(w.heap.setIfInBounds r o)[r]? = some o:=fun o=>by simp [hlt]
  have hg : (getObj r).run TryQ.prog w = .ok (.map es clock) w:=by simp [getObj,Sem.run,hb]
  have hs : ∀ o : Obj,(setObj r o).run TryQ.prog w = .ok () { w with heap:=w.heap.setIfInBounds r o }:=fun o=>by simp [setObj,Sem.run,hb]
  unfold Builtin.delete_
  cases h : Ct k l 0 with
  | none =>
    refine ⟨.map es clock,?_,_,_,hset _,by rw [Uw h]; exact hR,hS⟩
    simp [run_underlying hm,hg,hs,K.chk,hf,h]
  | some p =>
    obtain ⟨j,x⟩:=p
    obtain ⟨n,h1,h2⟩:=Uv h
    obtain rfl : j = n:=by omega
    refine ⟨.map (es.eraseIdxIfInBounds j) clock,?_,_,_,hset _,?_,?_⟩
    · simp [run_underlying hm,hg,hs,K.chk,hf,h]
    · rw [h2]
      unfold Reads at hR ⊢
      rw [Array.toList_eraseIdxIfInBounds,Jt,hR,Jt]
    · rw [Array.toList_eraseIdxIfInBounds]
      exact ⟨fun x hx=>hS.1 x (List.mem_of_mem_eraseIdx hx),by rw [Jt]; exact hS.2.sublist (List.eraseIdx_sublist _ _)⟩
end
def Cy : List (Nat × Nat) -> Nat -> Nat
  | [],_=>0
  | p :: l,k=>if k = p.1 then p.2 else Cy l k
def D9 (k v : Nat) : List (Nat × Nat) -> List (Nat × Nat)
  | []=>[(k,v)]
  | p :: l=>if k = p.1 then (k,v) :: l else p :: D9 k v l
def Pw (k : Nat) : List (Nat × Nat) -> List (Nat × Nat)
  | []=>[]
  | p :: l=>if k = p.1 then l else p :: Pw k l
theorem Nc (k : Nat) : ∀ (sl : List (Nat × Nat)) (i : Nat),(Ct k (slotL sl) i).elim (wd 0) (·.2) = wd (Cy sl k)
  | [],_=>rfl
  | p :: l,i=>by
    show (Ct k ((p.1,wd p.2) :: slotL l) i).elim (wd 0) (·.2) = wd (if k = p.1 then p.2 else Cy l k)
    unfold Ct
    split
    · rfl
    · exact Nc k l (i + 1)
theorem Xo (k v : Nat) : ∀ sl : List (Nat × Nat),Gy k (wd v) (slotL sl) = slotL (D9 k v sl)
  | []=>rfl
  | p :: l=>by
    show Gy k (wd v) ((p.1,wd p.2) :: slotL l) = slotL (if k = p.1 then (k,v) :: l else p :: D9 k v l)
    unfold Gy
    split
    · rfl
    · rw [Xo k v l]; rfl
theorem Xv (k : Nat) : ∀ sl : List (Nat × Nat),U4 k (slotL sl) = slotL (Pw k sl)
  | []=>rfl
  | p :: l=>by
    show U4 k ((p.1,wd p.2) :: slotL l) = slotL (if k = p.1 then l else p :: Pw k l)
    unfold U4
    split
    · rfl
    · rw [Xv k l]; rfl
theorem Lg {sl : List (Nat × Nat)} (h : ∀ p ∈ sl,p.1 < M /\ p.2 < M) : ∀ p ∈ slotL sl,p.1 < M:=fun p hp=>by
  obtain ⟨r,hr,rfl⟩:=List.mem_map.1 hp
  exact (h r hr).1
theorem Akb : TryQ.prog.underlying 133 = some (.map 41 41):=(Ab 133).trans Tryz.underlying133
theorem fd4 (x0 x1 x2 x3 x4 x5 x6 x7 : Value) (W : World) : (Instr.field 136 (.agg #[x0,x1,x2,x3,x4,x5,x6,x7]) 4).run TryQ.prog W = .ok x7 W:=by kernel_rfl
variable [BaseB]
attribute [local go_sem] wd
theorem Aku {W : World} {l m : Nat} {dm : Dm} {cr : Int} {L : AL} {J : List Value} (h : LG W l m dm cr L J) {q : Int × Nat × Ac} (hq : q ∈ L) (k : Nat) (hk : k < M) :
    Calls TryQ.prog 329 #[pq l 0,.int .i64 q.1,wd k] W fun e w'=>e = .returned (wd (Cy q.2.2.sl k)) /\ Below W.heap.size W w':=by
 have hlk : ∀ V : World,V.heap[q.2.2.ms]? = W.heap[q.2.2.ms]? -> (Instr.lookup 133 (.map (some q.2.2.ms)) (.agg (wq k)) false).run TryQ.prog V = .ok (.agg (wq (Cy q.2.2.sl k))) V:=fun V hV=>by
  have:=Ip Gq Akb (k:=k) (z:=wd 0) ((h.slot q hq).same hV).mapL hk (Lg (h.key q hq)) (fun w=>(Af 41 w).trans ((Tryz.zeroValue41 w).trans (by simp [wd,lim])))
  rw [Nc] at this
  exact this
 have hms:=(h.slot q hq).lt
 have hb1 : Below W.heap.size W ((W.alloc (.cells (wq k) 41)).alloc (.cells wz 41)):=ba.trans (ba.mono (by simp))
 have h1:=h.below hb1
 have hk1 : ((W.alloc (.cells (wq k) 41)).alloc (.cells wz 41)).heap[W.heap.size]? = ob (wq k) 41:=Aw (Al W _)
 have hn1 : ((W.alloc (.cells (wq k) 41)).alloc (.cells wz 41)).heap[W.heap.size + 1]? = ob wz 41:=by have:=Al (W.alloc (.cells (wq k) 41)) (.cells wz 41); simpa using this
 go_enter TryQ.func329,Tryz.ntmps329
 go_wp2_with fail
 change Code.wp _ _ _ _ ((W.alloc (.cells (wq k) 41)).alloc (.cells wz 41))
 generalize ((W.alloc (.cells (wq k) 41)).alloc (.cells wz 41)) = V1 at hb1 h1 hk1 hn1 ⊢
 refine rq (fun V=>V.heap[W.heap.size]? = ob (wq k) 41) hk1 fun hH=>?_
 refine tx 0 7 (pq l 0) hH ?_
 refine tx 1 8 (.int .i64 q.1) hH ?_
 refine tv 4 11 (.agg (wq k)) (fun _ hW=>aq (bq hW 0 rfl) (aq (bq hW 1 rfl) (aq (bq hW 2 rfl) (bq hW 3 rfl)))) hH ?_
 refine r1 2 fun K hK=>?_
 go_simp
 refine (Pq (h1.below (Below.refl _ _).drew) hq).mono ?_
 rintro e W2 ⟨rfl,hb2⟩
 go_wp2_with fail
 refine hK.out _ _ ((hb2.block _ (Aa hH)).trans hH) fun hH=>?_
 clear hK K
 have hlk2:=hlk W2 (by have:=hb2.block q.2.2.ms (Nat.lt_of_lt_of_le hms hb1.size); exact this.trans (hb1.block q.2.2.ms hms))
 refine td (i:=3) (d:=some 10) (v:=.map (some q.2.2.ms)) rfl rfl (fun V hW=>?_) hH ?_
 ·clear hW hH
  have hfd:=fd4
  unfold Bd
  go_simp
 refine r1 5 fun K hK=>?_
 go_simp
 refine hK.out _ _ hH fun hH=>?_
 clear hK K
 have hn2:=(hb2.block _ (Aa (w:=V1.drew) hn1)).trans hn1
 have z0:=bq hn2 0 rfl
 have z1:=bq hn2 1 rfl
 have z2:=bq hn2 2 rfl
 have z3:=bq hn2 3 rfl
 have y0:=Ai hn2 0
 have y1:=Ai hn2 1
 have y2:=Ai hn2 2
 have y3:=Ai hn2 3
 refine r1 6 fun K hK=>?_
 go_simp
 refine hK.out _ _ (Ae (Ae (Ae (Ae hH (by omega)) (by omega)) (by omega)) (by omega)) fun hH=>?_
 clear hK K
 refine dn ?_
 clear z0 z1 z2 z3
 have hb2A:=hb1.drew.trans (hb2.mono hb1.size)
 go_wp2
 have hn5:=Cx (.int .u64 (lim (Cy q.2.2.sl k) 0)) (.int .u64 (lim (Cy q.2.2.sl k) 1)) (.int .u64 (lim (Cy q.2.2.sl k) 2)) (.int .u64 (lim (Cy q.2.2.sl k) 3)) hn2
 have hb5 : Below W.heap.size W ((((W2.setCell ⟨W.heap.size + 1,0,none⟩ (.int .u64 (lim (Cy q.2.2.sl k) 0))).setCell ⟨W.heap.size + 1,1,none⟩ (.int .u64 (lim (Cy q.2.2.sl k) 1))).setCell ⟨W.heap.size + 1,2,none⟩ (.int .u64 (lim (Cy q.2.2.sl k) 2))).setCell ⟨W.heap.size + 1,3,none⟩ (.int .u64 (lim (Cy q.2.2.sl k) 3))):=(((hb2A.setCell (by dsimp only; omega) _).setCell (by dsimp only; omega) _).setCell (by dsimp only; omega) _).setCell (by dsimp only; omega) _
 generalize ((((W2.setCell ⟨W.heap.size + 1,0,none⟩ (.int .u64 (lim (Cy q.2.2.sl k) 0))).setCell ⟨W.heap.size + 1,1,none⟩ (.int .u64 (lim (Cy q.2.2.sl k) 1))).setCell ⟨W.heap.size + 1,2,none⟩ (.int .u64 (lim (Cy q.2.2.sl k) 2))).setCell ⟨W.heap.size + 1,3,none⟩ (.int .u64 (lim (Cy q.2.2.sl k) 3))) = V5 at hn5 hb5 ⊢
 have z0:=Ad hn5 0
 have z1:=Ad hn5 1
 have z2:=Ad hn5 2
 have z3:=Ad hn5 3
 simp at z0 z1 z2 z3
 simp [bodyPost,results,Tryz.results329,go_sem,z0,z1,z2,z3]
 exact hb5
end Go.Mark
namespace Go.Mark
open Go.RowKit Go.Proofs
variable [BaseB]
section
attribute [local go_sem] wd
theorem Alg {L : AL} (h : (L.map (·.2.2.ms)).Nodup) {p q : Int × Nat × Ac} (hp : p ∈ L) (hq : q ∈ L) (e : p.2.2.ms = q.2.2.ms) : p = q:=by
  induction L with
  | nil=>cases hp
  | cons r L ih =>
    have hn:=List.nodup_cons.1 h
    rcases List.mem_cons.1 hp with hpe | hp'
    · subst hpe
      rcases List.mem_cons.1 hq with rfl | hq
      · rfl
      · exact absurd (show p.2.2.ms ∈ L.map (·.2.2.ms) by rw [e]; exact List.mem_map_of_mem (f:=fun x : Int × Nat × Ac=>x.2.2.ms) hq) hn.1
    · rcases List.mem_cons.1 hq with hqe | hq'
      · subst hqe; exact absurd (show q.2.2.ms ∈ L.map (·.2.2.ms) by rw [<- e]; exact List.mem_map_of_mem (f:=fun x : Int × Nat × Ac=>x.2.2.ms) hp') hn.1
      · exact ih hn.2 hp' hq'
theorem LG.setS {W W' : World} {l m : Nat} {dm : Dm} {cr : Int} {L : AL} {J J' : List Value} {T : List TypeId} (h : LG W l m dm cr L J) {q : Int × Nat × Ac} (hq : q ∈ L) {sl : List (Nat × Nat)} (hlj : LJ W' l m cr dm.b J') (hM : MapB wd W' q.2.2.ms (slotL sl)) (hp : Pres [l,q.2.2.ms] T W W') (hT : 136 ∉ T) (hkey : ∀ p ∈ sl,p.1 < M /\ p.2 < M) (hnd : (sl.map (·.1)).Nodup) : LG W' l m dm cr (Ce L q.2.1 { q.2.2 with sl:=sl }) J':=by
  obtain ⟨jv,hl,_⟩:=h.lj.ex
  obtain ⟨qe,qc,hqo,_⟩:=h.slot q hq
  have hm : ∀ {κ : Type} {kf : κ -> Value} {r : Nat} {x : List (κ × Value)},MapB kf W r x -> r ≠ q.2.2.ms -> MapB kf W' r x:=fun {κ kf r x} hx hr=>by
    obtain ⟨es,c,he⟩ : ∃ es c,W.heap[r]? = some (.map es c):=let ⟨es,c,h1,_⟩:=hx; ⟨es,c,h1⟩
    refine hx.same ((hp.obj he trivial ?_).trans he.symm)
    simp only [List.mem_cons,List.not_mem_nil,or_false,not_or]
    exact ⟨Ci he hl (fun e=>by cases e),hr⟩
  have hcase : ∀ p ∈ Ce L q.2.1 { q.2.2 with sl:=sl },(p = (q.1,q.2.1,{ q.2.2 with sl:=sl })) \/ (p ∈ L /\ p.2.1 ≠ q.2.1):=fun p hp'=>by
    obtain ⟨r,hr,rfl⟩:=List.mem_map.1 hp'
    split
    · rename_i e
      have:=Hz h.ndb hr hq e
      subst this
      exact .inl rfl
    · rename_i hne
      exact .inr ⟨hr,hne⟩
  have hmse : (Ce L q.2.1 { q.2.2 with sl:=sl }).map (·.2.2.ms) = L.map (·.2.2.ms):=by
    unfold Ce
    rw [List.map_map]
    refine List.map_congr_left fun r hr=>?_
    simp only [Function.comp]
    split
    · rename_i e
      have:=Hz h.ndb hr hq e
      subst this
      rfl
    · rfl
  have hacc : ∀ p ∈ L,W'.heap[p.2.1]? = ob (Bd p.2.2) 136:=fun p hp'=>hp.obj (h.acc p hp') hT (by
    simp only [List.mem_cons,List.not_mem_nil,or_false,not_or]
    exact ⟨Bc (h.acc p hp') hl (by decide),Ci (h.acc p hp') hqo (fun e=>by cases e)⟩)
  refine ⟨hlj,by rw [Xu]; exact hm h.map (fun e=>(h.nms q hq).1 e.symm),hm h.dmap (fun e=>(h.nms q hq).2 e.symm),fun p hp'=>?_,fun p hp'=>?_,by rw [Qb]; exact h.nd,by rw [Li]; exact h.ndb,fun p hp'=>?_,fun p hp'=>?_,fun p hp'=>?_,by rw [hmse]; exact h.ndm,fun p hp'=>?_,h.nmd,h.ndd,fun p hp'=>?_,h.mlo⟩
  · rcases hcase p hp' with rfl | ⟨hr,_⟩
    · exact hacc q hq
    · exact hacc p hr
  · rcases hcase p hp' with rfl | ⟨hr,hne⟩
    · exact hM
    · exact hm (h.slot p hr) (fun e=>hne (by rw [Alg h.ndm hr hq e]))
  · rcases hcase p hp' with rfl | ⟨hr,_⟩
    · exact h.bal q hq
    · exact h.bal p hr
  · rcases hcase p hp' with rfl | ⟨hr,_⟩
    · exact hkey
    · exact h.key p hr
  · rcases hcase p hp' with rfl | ⟨hr,_⟩
    · exact hnd
    · exact h.ndk p hr
  · rcases hcase p hp' with rfl | ⟨hr,_⟩
    · exact h.nms q hq
    · exact h.nms p hr
  · rcases hcase p hp' with rfl | ⟨hr,_⟩
    · exact h.lo q hq
    · exact h.lo p hr
theorem P8 {k v : Nat} : ∀ {sl : List (Nat × Nat)} {p : Nat × Nat},p ∈ D9 k v sl -> p = (k,v) \/ p ∈ sl
  | [],p,h=>.inl (List.mem_singleton.1 h)
  | r :: l,p,h=>by
    unfold D9 at h
    split at h
    · rcases List.mem_cons.1 h with rfl | h
      · exact .inl rfl
      · exact .inr (List.mem_cons_of_mem _ h)
    · rcases List.mem_cons.1 h with rfl | h
      · exact .inr List.mem_cons_self
      · exact (P8 h).imp id (List.mem_cons_of_mem _)
theorem Acy {k v : Nat} : ∀ {sl : List (Nat × Nat)},(sl.map (·.1)).Nodup -> ((D9 k v sl).map (·.1)).Nodup
  | [],_=>by simp [D9]
  | r :: l,h=>by
    have hn:=List.nodup_cons.1 h
    unfold D9
    split
    · rename_i e
      subst e
      exact h
    · rename_i hne
      refine List.nodup_cons.2 ⟨fun hm=>?_,Acy hn.2⟩
      obtain ⟨p,hp,e⟩:=List.mem_map.1 hm
      rcases P8 hp with rfl | hp
      · exact hne e
      · replace e : p.1 = r.1:=e
        exact hn.1 (by show r.1 ∈ l.map (·.1); rw [<- e]; exact List.mem_map_of_mem hp)
theorem Qc {k : Nat} : ∀ sl : List (Nat × Nat),(Pw k sl).Sublist sl
  | []=>.slnil
  | r :: l=>by
    unfold Pw
    split
    · exact List.sublist_cons_self _ _
    · exact (Qc l).cons_cons _
theorem Ak5 {W : World} {b : Nat} {a : Ac} (hb : W.heap[b]? = ob (Bd a) 136) (hM : MapB wd W a.ms (slotL a.sl)) (hkey : ∀ p ∈ a.sl,p.1 < M /\ p.2 < M) (k : Nat) (hk : k < M) (v : Nat) (hv : v < M) (hv0 : v ≠ 0) :
    Calls TryQ.prog 340 #[pq b 0,wd k,wd v] W fun e w'=>e = .returned (.tuple #[]) /\ MapB wd w' a.ms (slotL (D9 k v a.sl)) /\ Pres [a.ms] [] W w':=by
 have hz:=U1 v hv
 rw [decide_eq_false hv0] at hz
 have hb1 : Below W.heap.size W ((W.alloc (.cells (wq k) 41)).alloc (.cells (wq v) 41)):=ba.trans (ba.mono (by simp))
 have hk1 : ((W.alloc (.cells (wq k) 41)).alloc (.cells (wq v) 41)).heap[W.heap.size]? = ob (wq k) 41:=Aw (Al W _)
 have hn1 : ((W.alloc (.cells (wq k) 41)).alloc (.cells (wq v) 41)).heap[W.heap.size + 1]? = ob (wq v) 41:=by have:=Al (W.alloc (.cells (wq k) 41)) (.cells (wq v) 41); simpa using this
 have hM1 : MapB wd ((W.alloc (.cells (wq k) 41)).alloc (.cells (wq v) 41)) a.ms (slotL a.sl):=hM.below hb1
 have hb2 : ((W.alloc (.cells (wq k) 41)).alloc (.cells (wq v) 41)).heap[b]? = _:=bk hb1 hb
 have hne : b ≠ a.ms /\ W.heap.size ≠ a.ms /\ W.heap.size + 1 ≠ a.ms:=by
  have h1:=hM.lt
  obtain ⟨es,c,he,_⟩:=hM
  exact ⟨Ci hb he (fun e=>by cases e),by omega,by omega⟩
 go_enter TryQ.func340,Tryz.ntmps340
 go_wp2_with fail
 change Code.wp _ _ _ _ ((W.alloc (.cells (wq k) 41)).alloc (.cells (wq v) 41))
 generalize ((W.alloc (.cells (wq k) 41)).alloc (.cells (wq v) 41)) = V1 at hb1 hk1 hn1 hM1 hb2 ⊢
 refine rq (fun V=>V.heap[b]? = ob (Bd a) 136 /\ V.heap[W.heap.size]? = ob (wq k) 41 /\ V.heap[W.heap.size + 1]? = ob (wq v) 41) ⟨hb2,hk1,hn1⟩ fun hH=>?_
 refine tx 0 14 (pq b 0) hH ?_
 refine tx 1 15 (pq b 0) hH ?_
 refine tx 2 16 (pq b 7) hH ?_
 refine tv 3 17 (.map (some a.ms)) (fun _ hW=>bq (hW.1) 7 rfl) hH ?_
 refine tv 4 18 (.agg (wq k)) (fun _ hW=>aq (bq (hW.2.1) 0 rfl) (aq (bq (hW.2.1) 1 rfl) (aq (bq (hW.2.1) 2 rfl) (bq (hW.2.1) 3 rfl)))) hH ?_
 refine tv 5 19 (.agg (wq v)) (fun _ hW=>aq (bq (hW.2.2) 0 rfl) (aq (bq (hW.2.2) 1 rfl) (aq (bq (hW.2.2) 2 rfl) (bq (hW.2.2) 3 rfl)))) hH ?_
 refine r1 6 fun K hK=>?_
 go_simp
 refine Eo Gq Akb (k:=k) (v:=wd v) hM1 hk (Lg hkey) (fun o' hM2=>?_)
 have hp2:=Pres.setMap V1.drew a.ms o'
 skip
 refine hK.out _ _ ⟨hp2.obj hH.1 (by show (136 : Nat) ∉ []; simp) (by simpa using hne.1),hp2.obj hH.2.1 (by show (41 : Nat) ∉ []; simp) (by simpa using hne.2.1),hp2.obj hH.2.2 (by show (41 : Nat) ∉ []; simp) (by simpa using hne.2.2)⟩ fun hH=>?_
 clear hK K
 refine dn ?_
 show bodyPost TryQ.prog Tryz.f340 _ Exit.normal _ _
 simp [bodyPost,results,Tryz.results340,go_sem]
 rw [Xo] at hM2
 exact ⟨hM2,(Pres.of_below hb1.drew _ _).trans hp2⟩
theorem Ak6 {W : World} {b : Nat} {a : Ac} (hb : W.heap[b]? = ob (Bd a) 136) (hM : MapB wd W a.ms (slotL a.sl)) (hkey : ∀ p ∈ a.sl,p.1 < M /\ p.2 < M) (k : Nat) (hk : k < M) (v : Nat) (hv0 : v = 0) :
    Calls TryQ.prog 340 #[pq b 0,wd k,wd v] W fun e w'=>e = .returned (.tuple #[]) /\ MapB wd w' a.ms (slotL (Pw k a.sl)) /\ Pres [a.ms] [] W w':=by
 have hz:=U1 v (by rw [hv0]; decide)
 rw [decide_eq_true hv0] at hz
 clear hv0
 have hb1 : Below W.heap.size W ((W.alloc (.cells (wq k) 41)).alloc (.cells (wq v) 41)):=ba.trans (ba.mono (by simp))
 have hk1 : ((W.alloc (.cells (wq k) 41)).alloc (.cells (wq v) 41)).heap[W.heap.size]? = ob (wq k) 41:=Aw (Al W _)
 have hn1 : ((W.alloc (.cells (wq k) 41)).alloc (.cells (wq v) 41)).heap[W.heap.size + 1]? = ob (wq v) 41:=by have:=Al (W.alloc (.cells (wq k) 41)) (.cells (wq v) 41); simpa using this
 have hM1 : MapB wd ((W.alloc (.cells (wq k) 41)).alloc (.cells (wq v) 41)) a.ms (slotL a.sl):=hM.below hb1
 have hb2 : ((W.alloc (.cells (wq k) 41)).alloc (.cells (wq v) 41)).heap[b]? = _:=bk hb1 hb
 have hne : b ≠ a.ms /\ W.heap.size ≠ a.ms /\ W.heap.size + 1 ≠ a.ms:=by
  have h1:=hM.lt
  obtain ⟨es,c,he,_⟩:=hM
  exact ⟨Ci hb he (fun e=>by cases e),by omega,by omega⟩
 go_enter TryQ.func340,Tryz.ntmps340
 go_wp2_with fail
 change Code.wp _ _ _ _ ((W.alloc (.cells (wq k) 41)).alloc (.cells (wq v) 41))
 generalize ((W.alloc (.cells (wq k) 41)).alloc (.cells (wq v) 41)) = V1 at hb1 hk1 hn1 hM1 hb2 ⊢
 refine rq (fun V=>V.heap[b]? = ob (Bd a) 136 /\ V.heap[W.heap.size]? = ob (wq k) 41 /\ V.heap[W.heap.size + 1]? = ob (wq v) 41) ⟨hb2,hk1,hn1⟩ fun hH=>?_
 refine tx 0 9 (pq b 0) hH ?_
 refine tx 1 10 (pq b 0) hH ?_
 refine tx 2 11 (pq b 7) hH ?_
 refine tv 3 12 (.map (some a.ms)) (fun _ hW=>bq (hW.1) 7 rfl) hH ?_
 refine tv 4 13 (.agg (wq k)) (fun _ hW=>aq (bq (hW.2.1) 0 rfl) (aq (bq (hW.2.1) 1 rfl) (aq (bq (hW.2.1) 2 rfl) (bq (hW.2.1) 3 rfl)))) hH ?_
 refine r1 5 fun K hK=>?_
 obtain ⟨o',hrun,hM2⟩:=Y1 (ty:=0) Gq Akb (w:=V1.drew) hM1 hk (Lg hkey)
 go_simp
 have hp2:=Pres.setMap V1.drew a.ms o'
 refine hK.out _ _ ⟨hp2.obj hH.1 (by show (136 : Nat) ∉ []; simp) (by simpa using hne.1),hp2.obj hH.2.1 (by show (41 : Nat) ∉ []; simp) (by simpa using hne.2.1),hp2.obj hH.2.2 (by show (41 : Nat) ∉ []; simp) (by simpa using hne.2.2)⟩ fun hH=>?_
 clear hK K
 refine dn ?_
 go_wp2
 simp [bodyPost,results,Tryz.results340,go_sem]
 rw [Xv] at hM2
 exact ⟨hM2,(Pres.of_below hb1.drew _ _).trans hp2⟩
end
section
attribute [local go_sem] wd
def D7 (b k x : Nat) : Value:=.iface 399 (.agg #[pq b 0,.int .u64 (lim k 0),.int .u64 (lim k 1),.int .u64 (lim k 2),.int .u64 (lim k 3),.int .u64 (lim x 0),.int .u64 (lim x 1),.int .u64 (lim x 2),.int .u64 (lim x 3)])
section
variable {W : World} {l m : Nat} {dm : Dm} {cr : Int} {L : AL} {J : List Value}
theorem Anz (h : LG W l m dm cr L J) {q : Int × Nat × Ac} (hq : q ∈ L) (k v : Nat) (hk : k < M) (hv : v < M) (hv0 : v ≠ 0) (hJ : J.length < 1000000) :
    Calls TryQ.prog 330 #[pq l 0,.int .i64 q.1,wd k,wd v] W fun e w'=>e = .returned (.tuple #[]) /\ LG w' l m dm cr (Ce L q.2.1 { q.2.2 with sl:=D9 k v q.2.2.sl }) (J ++ [D7 q.2.1 k (Cy q.2.2.sl k)]) /\ Pres [l,q.2.2.ms] [262] W w':=by
 have hlk : ∀ V : World,V.heap[q.2.2.ms]? = W.heap[q.2.2.ms]? -> (Instr.lookup 133 (.map (some q.2.2.ms)) (.agg (wq k)) false).run TryQ.prog V = .ok (.agg (wq (Cy q.2.2.sl k))) V:=fun V hV=>by
  have:=Ip Gq Akb (k:=k) (z:=wd 0) ((h.slot q hq).same hV).mapL hk (Lg (h.key q hq)) (fun w=>(Af 41 w).trans ((Tryz.zeroValue41 w).trans (by simp [wd,lim])))
  rw [Nc] at this
  exact this
 have hms:=(h.slot q hq).lt
 have hb1 : Below W.heap.size W ((W.alloc (.cells (wq k) 41)).alloc (.cells (wq v) 41)):=ba.trans (ba.mono (by simp))
 have h1:=h.below hb1
 have hk1 : ((W.alloc (.cells (wq k) 41)).alloc (.cells (wq v) 41)).heap[W.heap.size]? = ob (wq k) 41:=Aw (Al W _)
 have hn1 : ((W.alloc (.cells (wq k) 41)).alloc (.cells (wq v) 41)).heap[W.heap.size + 1]? = ob (wq v) 41:=by have:=Al (W.alloc (.cells (wq k) 41)) (.cells (wq v) 41); simpa using this
 have hq1:=h1.acc q hq
 obtain ⟨es,ec,hmo,_⟩:=h.slot q hq
 obtain ⟨jv,hl,_⟩:=h.lj.ex
 have hll:=Aa hl
 have hne : q.2.1 ≠ l /\ W.heap.size ≠ l /\ q.2.2.ms ≠ l:=⟨Bc (h.acc q hq) hl (by decide),by omega,Ci hmo hl (fun e=>by cases e)⟩
 go_enter TryQ.func330,Tryz.ntmps330
 go_wp2_with fail
 refine (Jn h1 hq).mono ?_
 rintro e _ ⟨rfl,rfl⟩
 go_wp2_with fail
 change Code.wp _ _ _ _ ((W.alloc (.cells (wq k) 41)).alloc (.cells (wq v) 41))
 generalize ((W.alloc (.cells (wq k) 41)).alloc (.cells (wq v) 41)) = V1 at hb1 h1 hk1 hn1 hq1 ⊢
 refine rq (fun V=>V.heap[q.2.1]? = ob (Bd q.2.2) 136 /\ V.heap[W.heap.size]? = ob (wq k) 41 /\ V.heap[q.2.2.ms]? = W.heap[q.2.2.ms]?) ⟨hq1,hk1,hb1.block _ hms⟩ fun hH=>?_
 refine tx 0 12 (pq l 0) hH ?_
 refine tx 1 13 (pq q.2.1 0) hH ?_
 refine tv 2 14 (.agg (wq k)) (fun _ hW=>aq (bq (hW.2.1) 0 rfl) (aq (bq (hW.2.1) 1 rfl) (aq (bq (hW.2.1) 2 rfl) (bq (hW.2.1) 3 rfl)))) hH ?_
 refine tx 3 15 (pq q.2.1 0) hH ?_
 refine tx 4 16 (pq q.2.1 0) hH ?_
 refine tx 5 17 (pq q.2.1 7) hH ?_
 refine tv 6 18 (.map (some q.2.2.ms)) (fun _ hW=>bq (hW.1) 7 rfl) hH ?_
 refine tv 7 19 (.agg (wq k)) (fun _ hW=>aq (bq (hW.2.1) 0 rfl) (aq (bq (hW.2.1) 1 rfl) (aq (bq (hW.2.1) 2 rfl) (bq (hW.2.1) 3 rfl)))) hH ?_
 refine td (i:=8) (d:=some 20) (v:=.agg (wq (Cy q.2.2.sl k))) rfl rfl (fun V hW=>?_) hH ?_
 ·have hlk2:=hlk V hW.2.2
  clear hW hH
  go_simp
 refine tx 9 21 (.agg #[pq q.2.1 0,.int .u64 (lim k 0),.int .u64 (lim k 1),.int .u64 (lim k 2),.int .u64 (lim k 3),.int .u64 (lim (Cy q.2.2.sl k) 0),.int .u64 (lim (Cy q.2.2.sl k) 1),.int .u64 (lim (Cy q.2.2.sl k) 2),.int .u64 (lim (Cy q.2.2.sl k) 3)]) hH ?_
 refine tx 10 22 (.iface 399 (.agg #[pq q.2.1 0,.int .u64 (lim k 0),.int .u64 (lim k 1),.int .u64 (lim k 2),.int .u64 (lim k 3),.int .u64 (lim (Cy q.2.2.sl k) 0),.int .u64 (lim (Cy q.2.2.sl k) 1),.int .u64 (lim (Cy q.2.2.sl k) 2),.int .u64 (lim (Cy q.2.2.sl k) 3)])) hH ?_
 refine r1 11 fun K hK=>?_
 go_simp
 refine (note l m cr dm.b J 399 _ V1.drew (h1.below (Below.refl _ _).drew).lj hJ).mono ?_
 rintro e W2 ⟨rfl,hlj2,hp2⟩
 go_wp2_with fail
 refine hK.out _ _ ⟨hp2.obj hH.1 (by show (136 : Nat) ∉ [262]; decide) (by simpa using hne.1),hp2.obj hH.2.1 (by show (41 : Nat) ∉ [262]; decide) (by simpa using hne.2.1),(hp2.obj (o:=.map es ec) (by rw [hH.2.2]; exact hmo) trivial (by simpa using hne.2.2)).trans hmo.symm⟩ fun hH=>?_
 clear hK K
 refine dn ?_
 have hn2 : W2.heap[W.heap.size + 1]? = _:=hp2.obj (w:=V1.drew) hn1 (by show (41 : Nat) ∉ [262]; decide) (by simp; omega)
 have hq2:=hH.1
 have hk2:=hH.2.1
 have hM2:=(h.slot q hq).same hH.2.2
 have c0:=bq hk2 0 rfl
 have c1:=bq hk2 1 rfl
 have c2:=bq hk2 2 rfl
 have c3:=bq hk2 3 rfl
 have d0:=bq hn2 0 rfl
 have d1:=bq hn2 1 rfl
 have d2:=bq hn2 2 rfl
 have d3:=bq hn2 3 rfl
 have hps:=Ak5 hq2 hM2 (h.key q hq) k hk v hv hv0
 clear hlk
 go_wp2_with fail
 refine hps.mono ?_
 rintro e W3 ⟨rfl,hM3,hp3⟩
 clear hps
 go_wp2
 simp [bodyPost,results,Tryz.results330,go_sem]
 have hpA : Pres [l,q.2.2.ms] [262] W W3:=Pres.trans (.of_below hb1.drew _ _) (Pres.trans (hp2.mono (fun k _ hk=>by simp at hk; simp [hk]) (fun t ht=>ht)) (hp3.mono (fun k _ hk=>by simp at hk; simp [hk]) (fun t ht=>by cases ht)))
 have hlj3 : LJ W3 l m cr dm.b (J ++ [D7 q.2.1 k (Cy q.2.2.sl k)]):=by
  obtain ⟨jv2,hl2,ho2⟩:=hlj2.ex
  refine ⟨hlj2.lo,jv2,hp3.obj hl2 (by show (128 : Nat) ∉ []; simp) (by simpa using hne.2.2.symm),Cw ho2 fun g hg=>?_⟩
  obtain ⟨cur,hc⟩:=Cj ho2 g hg
  refine (hp3.obj hc (by show (262 : Nat) ∉ []; simp) (fun e=>?_)).trans hc.symm
  simp only [List.mem_singleton] at e
  obtain ⟨es2,ec2,hmo2,_⟩:=hM2
  exact Ci hc hmo2 (fun e=>by cases e) e
 exact ⟨h.setS hq hlj3 hM3 hpA (by decide) (fun p hp=>(P8 hp).elim (fun e=>by subst e; exact ⟨hk,hv⟩) (h.key q hq p)) (Acy (h.ndk q hq)),hpA⟩
theorem Yy (h : LG W l m dm cr L J) {q : Int × Nat × Ac} (hq : q ∈ L) (k x : Nat) (hk : k < M) (hx : x = 0) :
    Calls TryQ.prog 391 #[.agg #[pq q.2.1 0,.int .u64 (lim k 0),.int .u64 (lim k 1),.int .u64 (lim k 2),.int .u64 (lim k 3),.int .u64 (lim x 0),.int .u64 (lim x 1),.int .u64 (lim x 2),.int .u64 (lim x 3)],pq l 0] W fun e w'=>e = .returned (.tuple #[]) /\ LG w' l m dm cr (Ce L q.2.1 { q.2.2 with sl:=Pw k q.2.2.sl }) J /\ Pres [q.2.2.ms] [] W w':=by
 have hb1 : Below W.heap.size W (W.alloc (.cells #[pq q.2.1 0,.int .u64 (lim k 0),.int .u64 (lim k 1),.int .u64 (lim k 2),.int .u64 (lim k 3),.int .u64 (lim x 0),.int .u64 (lim x 1),.int .u64 (lim x 2),.int .u64 (lim x 3)] 399)):=ba
 have h1:=h.below hb1
 have hpd:=Ak6 (h1.acc q hq) (h1.slot q hq) (h.key q hq) k hk x hx
 clear hx
 obtain ⟨es,ec,hmo,_⟩:=h1.slot q hq
 go_enter TryQ.func391,Tryz.ntmps391
 go_wp2_with fail
 refine hpd.mono ?_
 rintro e W3 ⟨rfl,hM3,hp3⟩
 clear hpd
 go_wp2
 simp [bodyPost,results,Tryz.results391,go_sem]
 have hpA : Pres [q.2.2.ms] [] W W3:=(Pres.of_below hb1 _ _).trans hp3
 have hlj3 : LJ W3 l m cr dm.b J:=by
  obtain ⟨jv2,hl2,ho2⟩:=h1.lj.ex
  refine ⟨h1.lj.lo,jv2,hp3.obj hl2 (by show (128 : Nat) ∉ []; simp) (fun e=>Ci hl2 hmo (fun e=>by cases e) (by simpa using e)),Cw ho2 fun g hg=>?_⟩
  obtain ⟨cur,hc⟩:=Cj ho2 g hg
  exact (hp3.obj hc (by show (262 : Nat) ∉ []; simp) (fun e=>Ci hc hmo (fun e=>by cases e) (by simpa using e))).trans hc.symm
 exact ⟨h.setS hq hlj3 hM3 (hpA.mono (fun k _ hk=>by simp at hk; simp [hk]) (fun t ht=>ht)) (by simp) (fun p hp=>h.key q hq p ((Qc _).subset hp)) ((h.ndk q hq).sublist ((Qc _).map _)),hpA⟩
variable {f : Nat} {F : Frm} {sv lg : SV} {back depth : Int}
theorem Ada (h : LG W l m dm cr L J) (hf : W.heap[f]? = ob (frC F sv) 225) (hm : W.heap[F.m]? = ob (Aj l lg back depth) 165) {q : Int × Nat × Ac} (hq : q ∈ L) (hself : q.1 = F.self) (k : Nat) (hk : k < M) :
    Calls TryQ.prog 301 #[pq f 0,wd k] W fun e w'=>e = .returned (wd (Cy q.2.2.sl k)) /\ Below W.heap.size W w':=by
 have hb1 : Below W.heap.size W ((W.alloc (.cells (wq k) 41)).alloc (.cells wz 41)):=ba.trans (ba.mono (by simp))
 have h1:=h.below hb1
 have hk1 : ((W.alloc (.cells (wq k) 41)).alloc (.cells wz 41)).heap[W.heap.size]? = ob (wq k) 41:=Aw (Al W _)
 have hn1 : ((W.alloc (.cells (wq k) 41)).alloc (.cells wz 41)).heap[W.heap.size + 1]? = ob wz 41:=by have:=Al (W.alloc (.cells (wq k) 41)) (.cells wz 41); simpa using this
 have hsl:=fun (V : World) (hV : LG V l m dm cr L J)=>Aku hV hq k hk
 rw [hself] at hsl
 go_enter TryQ.func301,Tryz.ntmps301
 go_wp2_with fail
 change Code.wp _ _ _ _ ((W.alloc (.cells (wq k) 41)).alloc (.cells wz 41))
 generalize ((W.alloc (.cells (wq k) 41)).alloc (.cells wz 41)) = V1 at hb1 h1 hk1 hn1 ⊢
 refine rq (fun V=>V.heap[f]? = ob (frC F sv) 225 /\ V.heap[F.m]? = ob (Aj l lg back depth) 165 /\ V.heap[W.heap.size]? = ob (wq k) 41) ⟨(hb1.block _ (Aa hf)).trans hf,(hb1.block _ (Aa hm)).trans hm,hk1⟩ fun hH=>?_
 refine tx 0 5 (pq f 0) hH ?_
 refine tx 1 6 (pq f 0) hH ?_
 refine tx 2 7 (pq f 0) hH ?_
 refine tv 3 8 (pq F.m 0) (fun _ hW=>bq (hW.1) 0 rfl) hH ?_
 refine tx 4 9 (pq F.m 0) hH ?_
 refine tx 5 10 (pq F.m 0) hH ?_
 refine tv 6 11 (pq l 0) (fun _ hW=>bq (hW.2.1) 0 rfl) hH ?_
 refine tx 7 12 (pq f 0) hH ?_
 refine tx 8 13 (pq f 0) hH ?_
 refine tx 9 14 (pq f 6) hH ?_
 refine tv 10 15 (.int .i64 F.self) (fun _ hW=>bq (hW.1) 6 rfl) hH ?_
 refine tv 11 16 (.agg (wq k)) (fun _ hW=>aq (bq (hW.2.2) 0 rfl) (aq (bq (hW.2.2) 1 rfl) (aq (bq (hW.2.2) 2 rfl) (bq (hW.2.2) 3 rfl)))) hH ?_
 refine r1 12 fun K hK=>?_
 go_simp
 refine (hsl _ (h1.below (Below.refl _ _).drew)).mono ?_
 rintro e W2 ⟨rfl,hb2⟩
 go_wp2_with fail
 refine hK.out _ _ ⟨(hb2.block _ (Aa hH.1)).trans hH.1,(hb2.block _ (Aa hH.2.1)).trans hH.2.1,(hb2.block _ (Aa hH.2.2)).trans hH.2.2⟩ fun hH=>?_
 clear hK K
 have hn2:=(hb2.block _ (Aa (w:=V1.drew) hn1)).trans hn1
 have z0:=bq hn2 0 rfl
 have z1:=bq hn2 1 rfl
 have z2:=bq hn2 2 rfl
 have z3:=bq hn2 3 rfl
 have y0:=Ai hn2 0
 have y1:=Ai hn2 1
 have y2:=Ai hn2 2
 have y3:=Ai hn2 3
 refine r1 13 fun K hK=>?_
 go_simp
 refine hK.out _ _ ⟨(Ae (Ae (Ae (Ae hH.1 (by have:=Aa hf; omega)) (by have:=Aa hf; omega)) (by have:=Aa hf; omega)) (by have:=Aa hf; omega)),(Ae (Ae (Ae (Ae hH.2.1 (by have:=Aa hm; omega)) (by have:=Aa hm; omega)) (by have:=Aa hm; omega)) (by have:=Aa hm; omega)),(Ae (Ae (Ae (Ae hH.2.2 (by omega)) (by omega)) (by omega)) (by omega))⟩ fun hH=>?_
 clear hK K
 refine dn ?_
 clear z0 z1 z2 z3
 have hb2A:=hb1.drew.trans (hb2.mono hb1.size)
 go_wp2
 have hn5:=Cx (.int .u64 (lim (Cy q.2.2.sl k) 0)) (.int .u64 (lim (Cy q.2.2.sl k) 1)) (.int .u64 (lim (Cy q.2.2.sl k) 2)) (.int .u64 (lim (Cy q.2.2.sl k) 3)) hn2
 have hb5 : Below W.heap.size W ((((W2.setCell ⟨W.heap.size + 1,0,none⟩ (.int .u64 (lim (Cy q.2.2.sl k) 0))).setCell ⟨W.heap.size + 1,1,none⟩ (.int .u64 (lim (Cy q.2.2.sl k) 1))).setCell ⟨W.heap.size + 1,2,none⟩ (.int .u64 (lim (Cy q.2.2.sl k) 2))).setCell ⟨W.heap.size + 1,3,none⟩ (.int .u64 (lim (Cy q.2.2.sl k) 3))):=(((hb2A.setCell (by dsimp only; omega) _).setCell (by dsimp only; omega) _).setCell (by dsimp only; omega) _).setCell (by dsimp only; omega) _
 generalize ((((W2.setCell ⟨W.heap.size + 1,0,none⟩ (.int .u64 (lim (Cy q.2.2.sl k) 0))).setCell ⟨W.heap.size + 1,1,none⟩ (.int .u64 (lim (Cy q.2.2.sl k) 1))).setCell ⟨W.heap.size + 1,2,none⟩ (.int .u64 (lim (Cy q.2.2.sl k) 2))).setCell ⟨W.heap.size + 1,3,none⟩ (.int .u64 (lim (Cy q.2.2.sl k) 3))) = V5 at hn5 hb5 ⊢
 have z0:=Ad hn5 0
 have z1:=Ad hn5 1
 have z2:=Ad hn5 2
 have z3:=Ad hn5 3
 simp at z0 z1 z2 z3
 simp [bodyPost,results,Tryz.results301,go_sem,z0,z1,z2,z3]
 exact hb5
theorem An0 (h : LG W l m dm cr L J) (hf : W.heap[f]? = ob (frC F sv) 225) (hm : W.heap[F.m]? = ob (Aj l lg back depth) 165) {q : Int × Nat × Ac} (hq : q ∈ L) (hself : q.1 = F.self) (k v : Nat) (hk : k < M) (hv : v < M) (hv0 : v ≠ 0) (hk0 : Cy q.2.2.sl k = 0) (hJ : J.length < 1000000) :
    Calls TryQ.prog 302 #[pq f 0,wd k,wd v] W fun e w'=>e = .returned (.tuple #[]) /\ LG w' l m dm cr (Ce L q.2.1 { q.2.2 with sl:=D9 k v q.2.2.sl }) (J ++ [D7 q.2.1 k 0]) /\ Pres [l,q.2.2.ms] [262] W w':=by
 have hb1 : Below W.heap.size W ((W.alloc (.cells (wq k) 41)).alloc (.cells (wq v) 41)):=ba.trans (ba.mono (by simp))
 have h1:=h.below hb1
 have hf1:=bk hb1 hf
 have hm1:=bk hb1 hm
 have hk1 : ((W.alloc (.cells (wq k) 41)).alloc (.cells (wq v) 41)).heap[W.heap.size]? = ob (wq k) 41:=Aw (Al W _)
 have hn1 : ((W.alloc (.cells (wq k) 41)).alloc (.cells (wq v) 41)).heap[W.heap.size + 1]? = ob (wq v) 41:=by have:=Al (W.alloc (.cells (wq k) 41)) (.cells (wq v) 41); simpa using this
 have hkp:=Ada h1 hf1 hm1 hq hself k hk
 have hpt:=fun (V : World) (hV : LG V l m dm cr L J)=>Anz hV hq k v hk hv hv0 hJ
 rw [hk0] at hkp hpt
 rw [hself] at hpt
 have hz:=U1 0 (by decide)
 obtain ⟨jv,hl,_⟩:=h.lj.ex
 obtain ⟨es,ec,hmo,_⟩:=h.slot q hq
 have hll:=Aa hl
 have hml:=Aa hmo
 have hne1 : f ≠ l /\ f ≠ q.2.2.ms:=⟨Bc hf hl (by decide),Ci hf hmo (fun e=>by cases e)⟩
 have hne2 : F.m ≠ l /\ F.m ≠ q.2.2.ms:=⟨Bc hm hl (by decide),Ci hm hmo (fun e=>by cases e)⟩
 have hne3 : ¬ W.heap.size = l /\ ¬ W.heap.size = q.2.2.ms:=⟨by omega,by omega⟩
 have hne4 : ¬ W.heap.size + 1 = l /\ ¬ W.heap.size + 1 = q.2.2.ms:=⟨by omega,by omega⟩
 go_enter TryQ.func302,Tryz.ntmps302
 go_wp2_with fail
 refine hkp.mono ?_
 rintro e W2 ⟨rfl,hb2⟩
 clear hkp
 go_wp2_with fail
 refine rq (fun V=>V.heap[f]? = ob (frC F sv) 225 /\ V.heap[F.m]? = ob (Aj l lg back depth) 165 /\ V.heap[W.heap.size]? = ob (wq k) 41 /\ V.heap[W.heap.size + 1]? = ob (wq v) 41) ⟨(hb2.block _ (Aa hf1)).trans hf1,(hb2.block _ (Aa hm1)).trans hm1,(hb2.block _ (Aa hk1)).trans hk1,(hb2.block _ (Aa hn1)).trans hn1⟩ fun hH=>?_
 refine tx 0 26 (pq f 0) hH ?_
 refine tx 1 27 (pq f 0) hH ?_
 refine tx 2 28 (pq f 0) hH ?_
 refine tv 3 29 (pq F.m 0) (fun _ hW=>bq (hW.1) 0 rfl) hH ?_
 refine tx 4 30 (pq F.m 0) hH ?_
 refine tx 5 31 (pq F.m 0) hH ?_
 refine tv 6 32 (pq l 0) (fun _ hW=>bq (hW.2.1) 0 rfl) hH ?_
 refine tx 7 33 (pq f 0) hH ?_
 refine tx 8 34 (pq f 0) hH ?_
 refine tx 9 35 (pq f 6) hH ?_
 refine tv 10 36 (.int .i64 F.self) (fun _ hW=>bq (hW.1) 6 rfl) hH ?_
 refine tv 11 37 (.agg (wq k)) (fun _ hW=>aq (bq (hW.2.2.1) 0 rfl) (aq (bq (hW.2.2.1) 1 rfl) (aq (bq (hW.2.2.1) 2 rfl) (bq (hW.2.2.1) 3 rfl)))) hH ?_
 refine tv 12 38 (.agg (wq v)) (fun _ hW=>aq (bq (hW.2.2.2) 0 rfl) (aq (bq (hW.2.2.2) 1 rfl) (aq (bq (hW.2.2.2) 2 rfl) (bq (hW.2.2.2) 3 rfl)))) hH ?_
 refine r1 13 fun K hK=>?_
 go_simp
 refine (hpt _ ((h1.below hb2).below (Below.refl _ _).drew)).mono ?_
 rintro e W3 ⟨rfl,h3,hp3⟩
 go_wp2_with fail
 refine hK.out _ _ ⟨hp3.obj hH.1 (by show (225 : Nat) ∉ [262]; decide) (by simp; exact hne1),hp3.obj hH.2.1 (by show (165 : Nat) ∉ [262]; decide) (by simp; exact hne2),hp3.obj hH.2.2.1 (by show (41 : Nat) ∉ [262]; decide) (by simp; exact hne3),hp3.obj hH.2.2.2 (by show (41 : Nat) ∉ [262]; decide) (by simp; exact hne4)⟩ fun hH=>?_
 clear hK K
 refine dn ?_
 show bodyPost TryQ.prog Tryz.f302 _ Exit.normal _ _
 simp [bodyPost,results,Tryz.results302,go_sem]
 exact ⟨h3,(Pres.of_below (hb1.trans (hb2.mono hb1.size)).drew _ _).trans hp3⟩
theorem Ajt (h : LG W l m dm cr L J) (hf : W.heap[f]? = ob (frC F sv) 225) (hm : W.heap[F.m]? = ob (Aj l lg back depth) 165) {q : Int × Nat × Ac} (hq : q ∈ L) (hself : q.1 = F.self) {T : List Nat} {k v : Nat} (hs : Stk W sv (T ++ [v,k])) (hk : k < M) (hv : v < M) (hv0 : v ≠ 0) (hk0 : Cy q.2.2.sl k = 0) :
    Calls TryQ.prog 292 #[pq f 0,.int .u8 45] W fun e w'=>e = .returned (.int .i64 15000) /\ Below W.heap.size W w':=by
 have h1:=Fg hs 1 (by decide) (j:=T.length + 1) (x:=k) (by simp) (by simp)
 have c14:=bq hf 14 rfl
 have hz:=U1 0 (by decide)
 have hzv:=U1 v hv
 rw [decide_eq_false hv0] at hzv
 go_enter TryQ.func292,Tryz.ntmps292
 go_wp2_with fail
 refine h1.mono ?_
 rintro e w1 ⟨rfl,hb1⟩
 clear h1
 have hf1:=bk hb1 hf
 have h2:=Ada (h.below hb1) hf1 ((hb1.block _ (Aa hm)).trans hm) hq hself k hk
 rw [hk0] at h2
 go_wp2_with fail
 refine h2.mono ?_
 rintro e w2 ⟨rfl,hb2⟩
 clear h2 c14
 have hf2:=bk hb2 hf1
 have c14:=bq hf2 14 rfl
 have hbA:=hb1.trans (hb2.mono hb1.size)
 have h3:=Fg (hs.below hbA) 2 (by decide) (j:=T.length) (x:=v) (by simp) (by simp)
 go_wp2_with fail
 refine h3.mono ?_
 rintro e w3 ⟨rfl,hb3⟩
 clear h3 c14
 go_wp2
 go_ret
 exact ⟨rfl,hbA.trans (hb3.mono hbA.size)⟩
end
end
end Go.Mark
