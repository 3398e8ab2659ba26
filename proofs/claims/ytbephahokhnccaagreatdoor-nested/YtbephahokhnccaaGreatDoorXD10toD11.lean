import Derived.Test.YtbephahokhnccaaGreatDoorXD8toD9
set_option linter.unusedSectionVars false
set_option maxRecDepth 100000
set_option maxHeartbeats 8000000
namespace Go.Mark
open Go.Conc Go.Walk Go.Phase Go.RowKit Go.Conc.Lib Go.ConcR.Gen Go.ConcN.Gen Go.Lift Go.Proofs
open Go.ConcN (WgLive Has RW DWs AtR0 PayAt)
open Go.ConcR (KK WgAt stA smA rd wr mk Payload)
structure Rw where
 b : Nat
 x : Array Value
 e : TypeId
def HR (bs : List Rw) (w : World) : Prop:=∀ q ∈ bs,w.heap[q.b]? = some (.cells q.x q.e)
structure GR (c : Cfg) (bs : List Rw) : Prop where
 wg : ∀ q ∈ bs,q.b ≠ c.Wg
 cc : ∀ q ∈ bs,q.b ≠ c.C
 ty : ∀ q ∈ bs,q.e ≠ 4
 sh : ∀ q ∈ bs,∀ a : Addr,a.block = q.b -> ¬ c.Shun (.cell a)
structure F0 (c : Cfg) (Low : Nat) (bs : List Rw) (w : World) : Prop where
 rows : HR bs w
 low : Low <= w.heap.size
 live : WgLive 189 c.Wg w
structure Lo (c : Cfg) (Low : Nat) : Prop where
 wg : c.Wg < Low
 cc : c.C < Low
 ba : c.base <= Low
section
variable {c : Cfg} (I : IsC c) {Low : Nat} {bs : List Rw} {w w₁ : World}
theorem HR.tail {q : Rw} (h : HR (q :: bs) w) : HR bs w:=fun p hp=>h p (List.mem_cons_of_mem _ hp)
theorem HR.head {q : Rw} (h : HR (q :: bs) w) : w.heap[q.b]? = some (.cells q.x q.e):=h q List.mem_cons_self
theorem F0.rely (I : IsC c) (g : GR c bs) (h : F0 c Low bs w) (r : R0 c w w₁) : F0 c Low bs w₁ :=
 ⟨fun q hq=>(r.keep q.b (lt_of_heap (h.rows q hq)) (g.wg q hq) (g.cc q hq) (Xg I (h.rows q hq) (g.ty q hq))).trans (h.rows q hq),Nat.le_trans h.low r.size,by have:=r.live; rw [I.ty] at this; exact this h.live⟩
theorem Apo (w : World) : D0 c Low w w #[]:=⟨Nat.le_refl _,fun _ _ _=>rfl,(fun e he=>by simp at he),id,rfl,rfl⟩
theorem U2 (I : IsC c) (g : GR c bs) : Env (R0 c) (D0 c Low) (F0 c Low bs):=⟨fun _ _ h r=>h.rely I g r,fun w=>Apo w⟩
theorem GR.cons (I : IsC c) (g : GR c bs) (L : Lo c Low) {q : Rw} (hb : Low <= q.b) (he : q.e ≠ 4) : GR c (q :: bs):=by
 have hs : ∀ a : Addr,a.block = q.b -> ¬ c.Shun (.cell a):=fun a ha hS=>by
  obtain ⟨a',e,hlt⟩:=I.geo.shun _ hS
  cases e
  have:=L.ba
  omega
 have h1:=L.wg
 have h2:=L.cc
 refine ⟨fun p hp=>?_,fun p hp=>?_,fun p hp=>?_,fun p hp=>?_⟩ <;> rcases List.mem_cons.1 hp with rfl | hp
 ·omega
 ·exact g.wg p hp
 ·omega
 ·exact g.cc p hp
 ·exact he
 ·exact g.ty p hp
 ·exact hs
 ·exact g.sh p hp
theorem Yq (I : IsC c) (g : GR c bs) {q : Rw} (hq : q ∈ bs) (h : HR bs w) {es : Array Event} (hes : ∀ e ∈ es,∃ k,e = ⟨.cell ⟨q.b,k,none⟩,false,false⟩) : D0 c Low w w es :=
 ⟨Nat.le_refl _,fun _ _ _=>rfl,fun e he=>by
  obtain ⟨k,rfl⟩:=hes e he
  exact .inl ⟨⟨q.b,k,none⟩,false,rfl,g.wg q hq,g.cc q hq,Xg I (h q hq) (g.ty q hq),g.sh q hq _ rfl,(fun h=>by cases h),lt_of_heap (h q hq)⟩,id,rfl,rfl⟩
theorem Vh (I : IsC c) (g : GR c bs) {fr : Frame} {a : Act} {k : List Item} {cs : List Frame} {ops : Array Oper} {j : Nat} {rest : List Nat} {o : Oper} {n : Nat} {Stop : Goroutine -> World -> Prop} {z : Array Value} {t : TypeId} (ho : ops[j]? = some o) (hw : Region.wanted o (yielded ops a.tmps) = true) (hk : fr.kind ≠ .early)
  (hr : ∀ w,(execOp a.eval o).run Tryz.prog w = .ok (.value (pt w.heap.size)) (w.alloc (.cells z t)) /\ (execOp a.eval o).events Tryz.prog w #[] = #[])
  (h : ∀ b,Low <= b -> (∀ q ∈ bs,q.b ≠ b) -> GoW Tryz.prog true (R0 c) (D0 c Low) Stop (F0 c Low (⟨b,z,t⟩ :: bs)) n (G (fr.at (a.put o.dst (pt b)) (.inRegion ops rest :: k)) cs)) : GoW Tryz.prog true (R0 c) (D0 c Low) Stop (F0 c Low bs) (n + 1) (G (fr.at a (.inRegion ops (j :: rest) :: k)) cs) :=
 fun _ hw'=>Goes.step rfl fun w₁ h₁=>by
  have hF:=(U2 (Low:=Low) I g).cl _ _ hw' h₁
  rw [stepG_value ho hw hk (hr w₁).1]
  have hp : ∀ b o',w₁.heap[b]? = some o' -> (w₁.alloc (.cells z t)).heap[b]? = some o':=fun b o' hb=>by
   have:=lt_of_heap hb
   show (w₁.heap.push (.cells z t))[b]? = _
   rw [Array.getElem?_push_lt this,<- hb,Array.getElem?_eq_getElem this]
  refine ⟨⟨by show _ <= (w₁.heap.push _).size; simp,fun b hb _=>?_,fun e he=>?_,fun ht b o' hb ho=>?_,rfl,rfl⟩,h w₁.heap.size hF.low (fun q hq=>?_) _ ⟨fun q hq=>?_,?_,?_⟩⟩
  ·show (w₁.heap.push (.cells z t))[b]? = _
   rw [Array.getElem?_push_lt hb,Array.getElem?_eq_getElem hb]
  ·have:=mem_listed he
   rw [(hr w₁).2] at this
   simp at this
  ·replace ho : (w₁.heap.push (.cells z t))[b]? = some o':=ho
   rw [Array.getElem?_push] at ho
   split at ho
   ·cases ho
    exact ⟨_,_,rfl⟩
   ·exact ht b o' hb ho
  ·have:=lt_of_heap (hF.rows q hq)
   omega
  ·rcases List.mem_cons.1 hq with rfl | hq
   ·show (w₁.heap.push (.cells z t))[w₁.heap.size]? = _
    rw [Array.getElem?_push_size]
   ·exact hp _ _ (hF.rows q hq)
  ·show _ <= (w₁.heap.push (.cells z t)).size
   have:=hF.low
   simp
   omega
  ·obtain ⟨st,sm,e⟩:=hF.live
   exact ⟨st,sm,hp _ _ e⟩
theorem Yj (I : IsC c) (L : Lo c Low) (g : GR c bs) {fr : Frame} {a : Act} {k : List Item} {cs : List Frame} {ops : Array Oper} {j : Nat} {rest : List Nat} {o : Oper} {n : Nat} {Stop : Goroutine -> World -> Prop} {b : Nat} {x y : Array Value} {t : TypeId} (ho : ops[j]? = some o) (hw : Region.wanted o (yielded ops a.tmps) = true) (hk : fr.kind ≠ .early) (hb : Low <= b) (hne : ∀ q ∈ bs,q.b ≠ b) (ht : t ≠ 4)
  (hr : ∀ w : World,w.heap[b]? = some (.cells x t) -> ∃ w',(execOp a.eval o).run Tryz.prog w = .ok .skip w' /\ (∀ e ∈ (execOp a.eval o).events Tryz.prog w #[],∃ k,e = ⟨.cell ⟨b,k,none⟩,true,false⟩) /\ w'.heap[b]? = some (.cells y t) /\ (∀ b',b' ≠ b -> w'.heap[b']? = w.heap[b']?) /\ w'.heap.size = w.heap.size /\ w'.os = w.os /\ w'.output = w.output)
  (h : GoW Tryz.prog true (R0 c) (D0 c Low) Stop (F0 c Low (⟨b,y,t⟩ :: bs)) n (G (fr.at (a.put o.dst ud) (.inRegion ops rest :: k)) cs)) : GoW Tryz.prog true (R0 c) (D0 c Low) Stop (F0 c Low (⟨b,x,t⟩ :: bs)) (n + 1) (G (fr.at a (.inRegion ops (j :: rest) :: k)) cs) :=
 have g' : GR c (⟨b,x,t⟩ :: bs):=g.cons I L hb ht
 Yi (U2 I g') ho hw hk (fun w hF=>by
  obtain ⟨w',h1,h2,h3,h4,h5,h6⟩:=hr w hF.rows.head
  have hnb : ∀ b',b' ≠ b -> w'.heap[b']? = w.heap[b']?:=h4
  refine ⟨w',h1,⟨Nat.le_of_eq h5.symm,fun b' _ hb''=>hnb b' ?_,fun e he=>?_,fun ht b' o' hb1 ho=>?_,h6⟩,⟨fun q hq=>?_,by rw [h5]; exact hF.low,?_⟩⟩
  ·rintro rfl
   rcases hb'' with h | h
   ·omega
   ·exact Xg I hF.rows.head ht h
  ·obtain ⟨k,rfl⟩:=h2 e (mem_listed he)
   have hh:=g'.sh _ List.mem_cons_self
   exact .inl ⟨⟨b,k,none⟩,true,rfl,g'.wg _ List.mem_cons_self,g'.cc _ List.mem_cons_self,Xg I hF.rows.head ht,hh _ rfl,fun _=>hb,lt_of_heap hF.rows.head⟩
  ·by_cases e : b' = b
   ·subst e
    rw [h3] at ho
    cases ho
    exact ⟨_,_,rfl⟩
   ·rw [hnb b' e] at ho
    exact ht b' o' hb1 ho
  ·rcases List.mem_cons.1 hq with rfl | hq
   ·exact h3
   ·exact (hnb _ (hne q hq)).trans (hF.rows.tail q hq)
  ·obtain ⟨st,sm,e⟩:=hF.live
   exact ⟨st,sm,(hnb _ (Ne.symm (g'.wg _ List.mem_cons_self))).trans e⟩) h
theorem Jr {o : Oper} {ev : Operand -> Value} {t : TypeId} {z : Value} (hop : o.op = .alloc t) (hz : ∀ w,Sem.run Tryz.prog (zeroValue t) w = .ok z w) (hze : ∀ w es,(zeroValue t).events Tryz.prog w es = es) (w : World) :
  (execOp ev o).run Tryz.prog w = .ok (.value (pt w.heap.size)) (w.alloc (.cells z.cells t)) /\ (execOp ev o).events Tryz.prog w #[] = #[]:=by
 unfold execOp
 simp only [hop,Instr.alloc]
 constructor
 ·simp [hz,newVar,newRow]
 ·simp [hz,hze,newVar,newRow]
theorem Ac3 {o : Oper} {ev : Operand -> Value} {t : TypeId} {x : Operand} {v : Value} (hop : o.op = .box t x) (hx : ev x = v) (w : World) :
  (execOp ev o).run Tryz.prog w = .ok (.value (pt w.heap.size)) (w.alloc (.cells v.cells t)) /\ (execOp ev o).events Tryz.prog w #[] = #[]:=by
 unfold execOp
 simp only [hop,hx,Instr.box]
 constructor
 ·simp [newVar,newRow]
 ·simp [newVar,newRow]
theorem Pt (t : TypeId) {i : TypeInfo} {z : Value} (hi : Tryz.prog.info? t = some i) (hz : i.zero = some z) (w : World) (es : Array Event) : (zeroValue t).events Tryz.prog w es = es:=by
 simp [zeroValue,typeInfo,hi,hz]
end
theorem Qj (b off j : Nat) : (⟨b,off,none⟩ : Addr).add j = ⟨b,off + j,none⟩:=by
 unfold Addr.add
 split
 ·rename_i h
  simp_all
 ·rfl
def el (X : Array Value) (off : Nat) : Array Value:=((List.range 8).map fun j=>X.getD (off + j) ud).toArray
theorem Ame (X : Array Value) (off : Nat) : (el X off).size = 8:=by simp [el]
theorem Arp (X : Array Value) (off j : Nat) (hj : j < 8) (h : off + j < X.size) : (el X off)[j]? = X[off + j]?:=by
 simp [el,hj,h]
theorem Yp {P : Program} (a : Addr) : ∀ (n i : Nat) (acc : Array Value) (w : World) (es : Array Event),(∀ j,j < n -> ∃ v,w.cell? (a.add (i + j)) = some v) ->
  ∀ ev ∈ (loadCellsFrom a i n acc).events P w es,ev ∈ es \/ ∃ j,ev = ⟨.cell (a.add j),false,false⟩
 | 0,_,_,_,_,_=>fun ev h=>.inl (by simpa [loadCellsFrom] using h)
 | n + 1,i,acc,w,es,hc=>fun ev h=>by
  obtain ⟨u,hu⟩:=hc 0 (by omega)
  rw [Nat.add_zero] at hu
  have hr : (load (a.add i)).run P w = .ok u w:=by simp [hu]
  have he : (load (a.add i)).events P w es = es.push ⟨.cell (a.add i),false,false⟩:=by
   show (Sem.runT P (.load .plain (a.add i) .pure) w es).2 = _
   simp only [Sem.runT,hu]
   rfl
  simp only [loadCellsFrom,Sem.events_bind,hr,he] at h
  rcases Yp a n (i + 1) (acc.push u) w _ (fun j hj=>by have:=hc (j + 1) (by omega); rwa [show i + (j + 1) = i + 1 + j by omega] at this) ev h with h | h
  ·rcases Array.mem_push.1 h with h | rfl
   ·exact .inl h
   ·exact .inr ⟨i,rfl⟩
  ·exact .inr h
theorem Ur {P : Program} (g : Nat) (t : TypeId) : ∀ (vs : List Value) (i : Nat) (cur : Array Value) (w : World) (es : Array Event),w.heap[g]? = some (.cells cur t (0,0)) -> i + vs.length <= cur.size -> (∀ v ∈ vs,v.oneCell' = true) ->
  ∀ ev ∈ (storeCells ⟨g,0,none⟩ vs i).events P w es,ev ∈ es \/ ∃ k,ev = ⟨.cell ⟨g,k,none⟩,true,false⟩
 | [],_,_,_,_,_,_,_=>fun ev h=>.inl (by simpa [storeCells] using h)
 | v :: rest,i,cur,w,es,hg,hl,h1=>fun ev h=>by
  have hlt : i < cur.size:=by simp at hl; omega
  have hv:=h1 v List.mem_cons_self
  have hv1 : ∀ z,v ≠ .agg z:=by rintro z rfl; simp [Value.oneCell'] at hv
  have hv2 : ∀ z,v ≠ .tuple z:=by rintro z rfl; simp [Value.oneCell'] at hv
  have e : (⟨g,0,none⟩ : Addr).add i = ⟨g,i,none⟩:=by rw [Qj,Nat.zero_add]
  have hs:=Im (P:=P) (ad:=⟨g,i,none⟩) (w:=w) (u:=cur[i]) hv1 hv2 (by simp [World.cell?,hg,hlt]) (by simp [World.frozen?,hg])
  simp only [storeCells,Sem.events_bind,e,hs.1,hs.2] at h
  have hg' : (w.setCell ⟨g,i,none⟩ v).heap[g]? = some (.cells (cur.setIfInBounds i v) t (0,0)):=by
   rw [setCell_eq_setRow w g i cur _ (0,0) _ hg,setRow_heap w g _ _ _ _ hg]
  rcases Ur g t rest (i + 1) _ _ _ hg' (by simp at hl ⊢; omega) (fun x hx=>h1 x (List.mem_cons_of_mem _ hx)) ev h with h | h
  ·rcases Array.mem_push.1 h with h | rfl
   ·exact .inl h
   ·exact .inr ⟨i,rfl⟩
  ·exact .inr h
theorem Ade : Tryz.prog.info? 52 = some Tryz.t52:=by kernel_rfl
theorem info3 : Tryz.prog.info? 3 = some Tryz.t3:=by kernel_rfl
theorem Xx {o : Oper} {ev : Operand -> Value} {x : Operand} {b off : Nat} {X : Array Value} {w : World} (hop : o.op = .load 52 x) (hx : ev x = .pointer (some ⟨b,off,none⟩)) (hb : w.heap[b]? = some (.cells X 52)) (hl : off + 8 <= X.size) :
  (execOp ev o).run Tryz.prog w = .ok (.value (.agg (el X off))) w /\ ∀ e ∈ (execOp ev o).events Tryz.prog w #[],∃ k,e = ⟨.cell ⟨b,k,none⟩,false,false⟩:=by
 have hc : ∀ j,j < 8 -> w.cell? ((⟨b,off,none⟩ : Addr).add j) = some (X.getD (off + j) ud):=fun j hj=>by
  rw [Qj]
  simp [World.cell?,hb,show off + j < X.size by omega]
 have hr:=run_loadCells (P:=Tryz.prog) w ⟨b,off,none⟩ 8 _ hc
 unfold execOp
 simp only [hop,hx,Instr.loadAt,Instr.sureAddr,loadVar]
 constructor
 ·simp [Tryz.isAgg52,Tryz.sizeOf52,hr,el]
 ·intro e he
  have he' : e ∈ (loadCells ⟨b,off,none⟩ 8).events Tryz.prog w #[]:=by
   simpa [Tryz.isAgg52,Tryz.sizeOf52,hr,go_sem] using he
  rcases Yp (P:=Tryz.prog) ⟨b,off,none⟩ 8 0 #[] w #[] (fun j hj=>⟨_,by rw [Nat.zero_add]; exact hc j hj⟩) e he' with h | ⟨j,rfl⟩
  ·simp at h
  ·exact ⟨off + j,by rw [Qj]⟩
end Go.Mark
namespace Go.Phase
open Go.Conc Go.Walk Go.RowKit Go.Conc.Lib Go.ConcR.Gen Go.ConcN.Gen
open Go.ConcN (WgLive)
open Go.ConcR (KK WgAt stA smA rd wr mk Payload)
variable [Payload] {L : WgLink}
theorem addX {c : Cfg} (H : WgLib c.P L) {Low i : Nat} {Next : Goroutine -> World -> Prop} {X : World -> Prop} (hX : ∀ w w₁,X w -> R0 c w w₁ -> X w₁) {b₀ : Frame} {a₀ : Act} {ops₀ : Array Oper} {i₀ : Nat} {rest₀ : List Nat} {k₀ : List Item} {cs : List Frame} {mT : Nat}
  (hT : ∀ w,X w -> WgLive c.ty c.Wg w -> Goes c.P true (R0 c) (D0 c Low) (AtGo c i Next) mT (G (b₀.at (a₀.put ((ops₀[i₀]?).bind (·.dst)) (.tuple #[])) (.inRegion ops₀ rest₀ :: k₀)) cs) w) :
  GoW c.P true (R0 c) (D0 c Low) (AtKdS c Low i Next) (fun w=>X w /\ WgLive c.ty c.Wg w) 40
   (G ((base L.add).at ⟨#[.pointer (some ⟨c.Wg,0,none⟩),.int .i64 1] ++ Array.replicate 115 ud,[]⟩ [.code (body_add L)]) (b₀.at a₀ (.inRegion ops₀ (i₀ :: rest₀) :: k₀) :: cs)):=by
 lib_facts
 have E:=envX c Low hX
 simp only [body_add,addFn,Option.getD_some]
 walk_nrm
 repeat (first
  | refine Bj E ?_
  | refine Co E ?_
  | refine Ah E ?_
  | refine Ar E ?_
  | refine Ay E ?_
  | refine Bf E ?_
  | refine Bi E ?_
  | refine Bh E ?_
  | refine Az E ?_
  | refine Dt E ?_
  | refine E9 E ?_
  | refine Gg E ?_
  | refine A8 E rfl ?_
  | refine Bg E rfl ?_
  | (refine Bn E rfl rfl ?_; walk_nrm)
  | refine Di E ?_
  | (refine Ps E (.bool false) rfl rfl (by k_ne) rfl H.f_inBubble (x_inBubble_n L) (x_inBubble_b L) (x_inBubble_x L) (x_inBubble_f L) ?_; walk_nrm)
  | (refine A9 E rfl rfl (by k_ne) (fun w hF K hK=>?_); go_simp; refine hK _ (by simp [go_sem, *]) ?_; clear hK K hF w; try w_num))
 refine Bp E (fun w hF=>?_)
 refine ⟨rfl,_,stepG_mark0 .disable (by simp) rfl rfl (by k_ne) rfl H.f_disable (x_disable_n L) (x_disable_b L) (x_disable_x L) (x_disable_f L),60,?_⟩
 revert w
 show GoW c.P true (R0 c) (D0 c Low) (AtA1 c Low i Next) (fun w=>X w /\ WgLive c.ty c.Wg w) 60 _
 walk_nrm
 repeat (first
  | refine Bj E ?_
  | refine Co E ?_
  | refine Ah E ?_
  | refine Ar E ?_
  | refine Ay E ?_
  | refine Bf E ?_
  | refine Bi E ?_
  | refine Bh E ?_
  | refine Az E ?_
  | refine Dt E ?_
  | refine E9 E ?_
  | refine Gg E ?_
  | refine A8 E rfl ?_
  | refine Bg E rfl ?_
  | (refine Bn E rfl rfl ?_; walk_nrm)
  | refine Di E ?_
  | (refine Df E rfl rfl (by k_ne) rfl H.f_uAdd (nm_uAdd L) rfl ?_; walk_nrmf uAddFn)
  | (refine Ps E (.bool false) rfl rfl (by k_ne) rfl H.f_inBubble (x_inBubble_n L) (x_inBubble_b L) (x_inBubble_x L) (x_inBubble_f L) ?_; walk_nrm)
  | (refine Ajm E rfl rfl (by k_ne) rfl ?_; walk_nrm)
  | (refine A9 E rfl rfl (by k_ne) (fun w hF K hK=>?_); go_simp; refine hK _ (by simp [go_sem, *]) ?_; clear hK K hF w; try w_num))
 refine Bp E (fun w hF=>⟨rfl,fun v hv hw=>?_⟩)
 have hF' : ∀ y : Int,X (w.setCell (stA c.Wg) (.int .u64 y)) /\ WgLive c.ty c.Wg (w.setCell (stA c.Wg) (.int .u64 y)):=fun y =>
  have hl : WgLive c.ty c.Wg (w.setCell (stA c.Wg) (.int .u64 y)):=⟨_,_,hw.setSt y⟩
  ⟨hX _ _ hF.1 (Qe (aside_setCell w (stA c.Wg) _) hl),hl⟩
 rcases Nat.eq_zero_or_pos v with rfl | hvp
 ·replace hw : WgAt c.ty c.Wg w 0 0:=by simpa using hw
  have z : (((0 : Nat) : Int) + 1) * KK = KK:=by simp
  rw [z]
  have e0 : IntKind.u64.wrap (0 + 4294967296) = KK:=by decide
  refine ⟨_,(stepG_add_atomic rfl rfl (by k_ne) rfl H.f_addU64 (x_addU64_n L) (x_addU64_b L) (x_addU64_x L) .u64 (x_addU64_f L) rfl rfl hw.cellSt (hw.thaw 0)).trans (by rw [e0]; rfl),150,?_⟩
  have hF2:=hF' KK
  generalize w.setCell (stA c.Wg) (.int .u64 KK) = w' at hF2 ⊢
  clear hw hF hF' hv e0 z w
  revert w'
  show GoW c.P true (R0 c) (D0 c Low) (AtKeS c Low i Next) (fun w=>X w /\ WgLive c.ty c.Wg w) 150 _
  simp only [KK]
  walk_nrm
  repeat (first
   | refine Bj E ?_
   | refine Co E ?_
   | refine Ah E ?_
   | refine Ar E ?_
   | refine Ay E ?_
   | refine Bf E ?_
   | refine Bi E ?_
   | refine Bh E ?_
   | refine Az E ?_
   | refine Dt E ?_
   | refine E9 E ?_
   | refine Gg E ?_
   | refine A8 E rfl ?_
   | refine Bg E rfl ?_
   | (refine Bn E rfl rfl ?_; walk_nrm)
   | refine Di E ?_
   | (refine Dp E rfl rfl H.f_uAdd rfl ?_; walk_nrm)
   | (refine Ps E (.bool false) rfl rfl (by k_ne) rfl H.f_inBubble (x_inBubble_n L) (x_inBubble_b L) (x_inBubble_x L) (x_inBubble_f L) ?_; walk_nrm)
   | (refine Jl E rfl rfl (by k_ne) rfl rfl H.underlying_tPU32 H.underlying_tUP H.room_tU32 (fun w hF=>Amw hF.2) ?_; walk_nrm)
   | (refine Amz E rfl (fun w _=>stepG_markAt .read (by simp) rfl rfl (by k_ne) rfl H.f_raceRead (x_raceRead_n L) (x_raceRead_b L) (x_raceRead_x L) (x_raceRead_f L) (ad:=⟨c.Wg,1,none⟩) (by simp [Act.eval])) (fun w _=>Amg c Low w _ rfl) ?_; walk_nrm)
   | (refine A9 E rfl rfl (by k_ne) (fun w hF K hK=>?_); go_simp; refine hK _ (by simp [go_sem, *]) ?_; clear hK K hF w; try w_num))
  refine Bp E (fun w hF=>?_)
  refine ⟨rfl,_,stepG_unwind_entry (v:=.tuple #[]) (evs:=#[mk .enable]) rfl H.f_enable (x_enable_n L) (x_enable_b L) (x_enable_x L) (x_enable_f L) (by simp [Extern.Race.none_]) (by simp [mk]) (by simp [mk]),mT + 1,?_⟩
  revert w
  show GoW c.P true (R0 c) (D0 c Low) (AtGo c i Next) (fun w=>X w /\ WgLive c.ty c.Wg w) (mT + 1) _
  refine Gj E rfl rfl H.f_add rfl ?_
  exact fun w hF=>hT w hF.1 hF.2
 ·obtain ⟨V,hV⟩ : ∃ V : Int,V = (v : Int) + 1:=⟨_,rfl⟩
  obtain ⟨S,hS⟩ : ∃ S : Int,S = V * KK:=⟨_,rfl⟩
  have eS : IntKind.u64.wrap ((v : Int) * KK + 4294967296) = S:=by rw [IntKind.wrap_u64,hS,hV]; simp only [KK]; omega
  rw [<- hV,<- hS]
  have a1 : S / 4294967296 = V:=by rw [hS]; simp only [KK]; omega
  have b1 : bits .and .u64 S 2147483648 = 0:=by rw [hS,hV]; have:=Go.ConcN.st_flag (v + 1) 0 (by omega) (by omega); simpa [KK] using this
  have b2 : bits .and .u64 S 2147483647 = 0:=by rw [hS,hV]; have:=Go.ConcN.st_waiters (v + 1) 0 (by omega) (by omega); simpa [KK] using this
  have c1 : IntKind.i32.wrap V = V:=by rw [IntKind.wrap_i32]; omega
  have hV1 : 1 < V:=by omega
  have hV2 : V < 2147483648:=by omega
  have q1 : (V == 1) = false:=by simp; omega
  have q2 : decide (V = 1) = false:=decide_eq_false (by omega)
  have q3 : decide (V < 0) = false:=decide_eq_false (by omega)
  have q4 : decide (0 < V) = true:=decide_eq_true (by omega)
  have q5 : (V == 0) = false:=by simp; omega
  have q6 : decide (V = 0) = false:=decide_eq_false (by omega)
  refine ⟨_,(stepG_add_atomic rfl rfl (by k_ne) rfl H.f_addU64 (x_addU64_n L) (x_addU64_b L) (x_addU64_x L) .u64 (x_addU64_f L) rfl rfl hw.cellSt (hw.thaw 0)).trans (by rw [eS]; rfl),150,?_⟩
  have hF2:=hF' S
  generalize w.setCell (stA c.Wg) (.int .u64 S) = w' at hF2 ⊢
  clear hw hF hF' hS hV eS w
  revert w'
  show GoW c.P true (R0 c) (D0 c Low) (AtKeS c Low i Next) (fun w=>X w /\ WgLive c.ty c.Wg w) 150 _
  walk_nrm
  repeat (first
   | refine Bj E ?_
   | refine Co E ?_
   | refine Ah E ?_
   | refine Ar E ?_
   | refine Ay E ?_
   | refine Bf E ?_
   | refine Bi E ?_
   | refine Bh E ?_
   | refine Az E ?_
   | refine Dt E ?_
   | refine E9 E ?_
   | refine Gg E ?_
   | refine A8 E rfl ?_
   | refine Bg E rfl ?_
   | (refine Bn E rfl rfl ?_; walk_nrm)
   | refine Di E ?_
   | refine A8 E (by simp [Act.eval]; omega) ?_
   | refine Bg E (by simp [Act.eval]; omega) ?_
   | (refine Dp E rfl rfl H.f_uAdd rfl ?_; walk_nrm)
   | (refine Ps E (.bool false) rfl rfl (by k_ne) rfl H.f_inBubble (x_inBubble_n L) (x_inBubble_b L) (x_inBubble_x L) (x_inBubble_f L) ?_; walk_nrm)
   | (refine A9 E rfl rfl (by k_ne) (fun w hF K hK=>?_); go_simp; refine hK _ (by simp [go_sem, *]) ?_; clear hK K hF w; try w_num))
  refine Bp E (fun w hF=>?_)
  refine ⟨rfl,_,stepG_unwind_entry (v:=.tuple #[]) (evs:=#[mk .enable]) rfl H.f_enable (x_enable_n L) (x_enable_b L) (x_enable_x L) (x_enable_f L) (by simp [Extern.Race.none_]) (by simp [mk]) (by simp [mk]),mT + 1,?_⟩
  revert w
  show GoW c.P true (R0 c) (D0 c Low) (AtGo c i Next) (fun w=>X w /\ WgLive c.ty c.Wg w) (mT + 1) _
  refine Gj E rfl rfl H.f_add rfl ?_
  exact fun w hF=>hT w hF.1 hF.2
end Go.Phase
namespace Go.Mark
open Go.Conc Go.Walk Go.Phase Go.RowKit Go.Conc.Lib Go.ConcR.Gen Go.ConcN.Gen Go.Lift Go.Proofs
open Go.ConcN (WgLive Has RW DWs AtR0 PayAt)
open Go.ConcR (KK WgAt stA smA rd wr mk Payload)
def Mv (c : Cfg) : Nat -> Nat -> Goroutine -> World -> Prop
 | 0,Low=>AtKd c Low
 | r + 1,Low=>AtKdS c Low (c.n - (r + 1)) (Spawns c r)
theorem Tk {c : Cfg} {r : Nat} {g : Goroutine} {w : World} (h : ∃ m,Goes c.P true (R0 c) (D0 c w.heap.size) (Mv c r w.heap.size) m g w) : Spawns c r g w:=by
 cases r <;> exact h
noncomputable def E8 : Code:=match Tryz.f60.body with
 | some (.seq _ (.seq _ (.seq _ (.seq (.seq _ (.block _ (.loop l))) _))))=>l
 | _=>.skip
noncomputable def Gp : Code:=match Tryz.f60.body with
 | some (.seq _ (.seq _ (.seq _ (.seq _ r))))=>r
 | _=>.skip
theorem nm36 : (Tryz.f97.name == "runtime.NumGoroutine") = false:=by kernel_rfl
theorem Ann {o : Oper} {ev : Operand -> Value} {x y : Operand} {b : Nat} {u : Value} {i : Int} (hop : o.op = .store 3 x y) (hx : ev x = pt b) (hy : ev y = .int .i64 i) (w : World) (hb : w.heap[b]? = some (.cells #[u] 3)) :
  ∃ w',(execOp ev o).run Tryz.prog w = .ok .skip w' /\ (∀ e ∈ (execOp ev o).events Tryz.prog w #[],∃ k,e = ⟨.cell ⟨b,k,none⟩,true,false⟩) /\ w'.heap[b]? = some (.cells #[.int .i64 i] 3) /\ (∀ b',b' ≠ b -> w'.heap[b']? = w.heap[b']?) /\ w'.heap.size = w.heap.size /\ w'.os = w.os /\ w'.output = w.output:=by
 have hs:=Dx (P:=Tryz.prog) (w:=w) hop hx hy (fun _=>by simp) (fun _=>by simp) Tryz.sizeOf3 (cell_of hb) (by simp [World.frozen?,hb])
 have hA:=aside_setCell w ⟨b,0,none⟩ (.int .i64 i)
 refine ⟨_,hs.1,fun e he=>?_,?_,fun b' h=>hA.block b' h,hA.size,hA.os,hA.output⟩
 ·rw [hs.2,Array.mem_singleton] at he
  exact ⟨0,he⟩
 ·rw [setCell_eq_setRow w b 0 #[u] _ (0,0) _ hb,setRow_heap w b _ _ _ _ hb]
  rfl
theorem Ako {o : Oper} {ev : Operand -> Value} {x y : Operand} {b : Nat} {old cells : Array Value} (hop : o.op = .store 52 x y) (hx : ev x = pt b) (hy : ev y = .agg cells) (h8 : cells.size = 8) (ho8 : old.size = 8) (h1 : cells.all (·.oneCell') = true) (w : World) (hb : w.heap[b]? = some (.cells old 52)) :
  ∃ w',(execOp ev o).run Tryz.prog w = .ok .skip w' /\ (∀ e ∈ (execOp ev o).events Tryz.prog w #[],∃ k,e = ⟨.cell ⟨b,k,none⟩,true,false⟩) /\ w'.heap[b]? = some (.cells cells 52) /\ (∀ b',b' ≠ b -> w'.heap[b']? = w.heap[b']?) /\ w'.heap.size = w.heap.size /\ w'.os = w.os /\ w'.output = w.output:=by
 have hr:=run_storeVar_row (P:=Tryz.prog) w b 52 52 old cells hb (by rw [Ade,h8]; rfl) (by omega) h1
 refine ⟨w.setRow b cells,?_,fun e he=>?_,setRow_heap w b _ _ _ _ hb,fun b' h=>?_,?_,rfl,rfl⟩
 ·unfold execOp
  simp only [hop,hx,hy,Instr.storeAt,Instr.sureAddr]
  simp [hr]
 ·unfold execOp at he
  simp only [hop,hx,hy,Instr.storeAt,Instr.sureAddr,storeVar] at he
  have he' : e ∈ (storeCells ⟨b,0,none⟩ cells.toList 0).events Tryz.prog w #[]:=by
   simpa [Value.cells,h8,Tryz.sizeOf52,go_sem] using he
  rcases Ur (P:=Tryz.prog) b 52 cells.toList 0 old w #[] hb (by simp; omega) (fun v hv=>(Array.all_eq_true_iff_forall_mem.1 h1) v (by simpa using hv)) e he' with h | h
  ·simp at h
  ·exact h
 ·simp [World.setRow,Array.getElem?_modify,Ne.symm h]
 ·simp [World.setRow]
section
variable {c : Cfg} (I : IsC c) {bm bacc cap : Nat} {X : Array Value} {code : Nat -> ByteArray} {cs : List Frame}
def bs0 (c : Cfg) (bacc bm : Nat) (X : Array Value) : List Rw:=[⟨bacc,X,52⟩,⟨bm,#[sl c.C c.n],122⟩]
structure Acc (c : Cfg) (bm bacc : Nat) (X : Array Value) (code : Nat -> ByteArray) : Prop where
 gr : GR c (bs0 c bacc bm X)
 size : c.n * 8 <= X.size
 one : X.all (·.oneCell') = true
 cod : ∀ i,i < c.n -> X[i * 8 + 6]? = some (.string (code i))
 short : ∀ i,i < c.n -> (code i).size < 2147483648
 out : ∀ i,i < c.n -> ∀ (w : World) (b : Nat),w.heap[b]? = some (.cells (marks (code i) (code i).size 0 (zeros (code i).size)) 4) -> w.cell? ⟨c.C,i,none⟩ = some (sl b (code i).size) -> c.Out i b w
 n31 : c.n < 2147483648
 bmB : c.base <= bm
theorem Apl (X : Array Value) (off : Nat) (h : X.all (·.oneCell') = true) (hl : off + 8 <= X.size) : (el X off).all (·.oneCell') = true:=by
 rw [Array.all_eq_true_iff_forall_mem] at h ⊢
 intro v hv
 simp only [el,List.mem_toArray,List.mem_map,List.mem_range] at hv
 obtain ⟨j,hj,rfl⟩:=hv
 have hlt : off + j < X.size:=by omega
 simp only [Array.getD_eq_getD_getElem?,Array.getElem?_eq_getElem hlt,Option.getD_some]
 exact h _ (Array.getElem_mem hlt)
theorem Ag2 {P : Program} {main : Bool} {R : World -> World -> Prop} {D : World -> World -> Array Event -> Prop} {Stop : Goroutine -> World -> Prop} {F F' : World -> Prop} {n : Nat} {g : Goroutine} (hF : ∀ w,F' w -> F w) (h : GoW P main R D Stop F n g) : GoW P main R D Stop F' n g:=fun w hw=>h w (hF w hw)
theorem F0.swap {Low : Nat} {p q : Rw} {bs : List Rw} (w : World) (h : F0 c Low (p :: q :: bs) w) : F0 c Low (q :: p :: bs) w :=
 ⟨fun x hx=>h.rows x (by simp only [List.mem_cons] at hx ⊢; rcases hx with h | h | h <;> simp [h]),h.low,h.live⟩
theorem Wi {P : Program} {main : Bool} {b : Frame} {a : Act} {k : List Item} {cs : List Frame} {ops : Array Oper} {i : Nat} {rest : List Nat} {o : Oper} {x : Operand} {f : FuncId} {caps : Array Value} {w : World} (ho : ops[i]? = some o) (hw : Region.wanted o (yielded ops a.tmps) = true) (hk : b.kind ≠ .early)
  (hop : o.op = .go { callee:=.value x,args:=#[],argTypes:=#[] }) (hx : a.eval x = .func (.func f) #[] caps) :
  stepG P main (G (b.at a (.inRegion ops (i :: rest) :: k)) cs) w = .spawn (G (b.at (a.put o.dst ud) (.inRegion ops rest :: k)) cs) (born P (El f caps)) w #[]:=by
 have hr : (execOp a.eval o).run P w = .ok (.spawn (El f caps)) w:=by
  unfold execOp
  simp [hop,resolve,Deferred.ofValue,hx,El]
 have he : (execOp a.eval o).events P w #[] = #[]:=by
  unfold execOp
  simp [hop,resolve,Deferred.ofValue,hx]
 rw [stepG_spawn ho hw hk hr rfl]
 unfold listed
 rw [he,seen_none]
theorem start (I : IsC c) (A : Acc c bm bacc X code) {r Low i : Nat} (hr : i + (r + 1) = c.n) (L : Lo c Low) {v1 v2 v5 v6 v7 v8 v9 v13 v14 v15 v16 v17 v18 v19 v20 v21 : Value}
  (hN : ∀ (Low' : Nat) (v1 v2 v5 v6 v7 v8 v9 v13 v14 v15 v16 v17 v18 v19 v20 v21 : Value),Lo c Low' -> GoW Tryz.prog true (R0 c) (D0 c Low') (Mv c r Low') (F0 c Low' (bs0 c bacc bm X)) 100 (G ((base 60).at ⟨#[.slice (some ⟨bacc,0,none⟩) c.n cap,v1,v2,pt bm,pt c.Wg,v5,v6,v7,v8,v9,.slice (some ⟨bacc,0,none⟩) c.n cap,.int .i64 (c.n : Int),.int .i64 ((i + 1 : Nat) : Int),v13,v14,v15,v16,v17,v18,v19,v20,v21],[]⟩ [.code E8,.inLoop E8,.inBlock 0,.code Gp]) cs)) :
  GoW Tryz.prog true (R0 c) (D0 c Low) (Mv c (r + 1) Low) (F0 c Low (bs0 c bacc bm X)) 100 (G ((base 60).at ⟨#[.slice (some ⟨bacc,0,none⟩) c.n cap,v1,v2,pt bm,pt c.Wg,v5,v6,v7,v8,v9,.slice (some ⟨bacc,0,none⟩) c.n cap,.int .i64 (c.n : Int),.int .i64 (i : Int),v13,v14,v15,v16,v17,v18,v19,v20,v21],[]⟩ [.code E8,.inLoop E8,.inBlock 0,.code Gp]) cs):=by
 have g0:=A.gr
 have E:=U2 (Low:=Low) I g0
 obtain ⟨lp,hlp⟩ : ∃ l,l = E8:=⟨_,rfl⟩
 generalize hrs : Gp = rs at hN ⊢
 rw [<- hlp] at hN ⊢
 have hlp':=hlp
 simp only [E8,Tryz.f60] at hlp'
 rw [show (Item.code lp) = Item.code _ from congrArg Item.code hlp']
 have c1 : (i : Int) < (c.n : Int):=by omega
 have e3:=Am1
 repeat (first
  | refine Bj E ?_
  | refine Co E ?_
  | refine Ah E ?_
  | refine Ar E ?_
  | refine Ay E ?_
  | refine Az E ?_
  | refine A8 E rfl ?_
  | refine Cc E ?_
  | refine Bv E ?_
  | refine Bq E ?_
  | refine A8 E (by simp [Act.eval]; omega) ?_
  | (refine A9 E rfl rfl (by k_ne) (fun w hF K hK=>?_); go_simp; refine hK _ (by simp [go_sem, *]) ?_; clear hK K hF w; try w_num))
 have hb8 : i * 8 + 8 <= X.size:=by have:=A.size; omega
 refine Cb E rfl rfl (by k_ne) (fun w hF=>(Xx rfl rfl (hF.rows _ List.mem_cons_self) hb8).1) (fun w hF=>Yq I g0 (q:=⟨bacc,X,52⟩) List.mem_cons_self hF.rows (fun e he=>(Xx rfl rfl (hF.rows _ List.mem_cons_self) hb8).2 e (mem_listed he))) ?_
 walk_nrm
 refine Vh I g0 rfl rfl (by k_ne) (fun w=>Jr rfl Tryz.zeroValue3 (Pt 3 info3 rfl) w) (fun bi hbi hni=>?_)
 walk_nrm
 have g1:=fun x=>g0.cons I L (q:=⟨bi,x,3⟩) hbi (by simp)
 refine Vh I (g1 _) rfl rfl (by k_ne) (fun w=>Jr rfl Tryz.zeroValue52 (Pt 52 Ade rfl) w) (fun ba hba hna=>?_)
 walk_nrm
 have hne : ba ≠ bi:=Ne.symm (hna _ List.mem_cons_self)
 have hna0 : ∀ q ∈ bs0 c bacc bm X,q.b ≠ ba:=fun q hq=>hna q (List.mem_cons_of_mem _ hq)
 have g2:=fun x=>g0.cons I L (q:=⟨ba,x,52⟩) hba (by simp)
 have g3:=fun x y=>(g1 x).cons I L (q:=⟨ba,y,52⟩) hba (by simp)
 refine Ag2 F0.swap ?_
 refine Yj I L (g2 _) rfl rfl (by k_ne) hbi (fun q hq=>?_) (by decide) (fun w hb=>Ann rfl rfl rfl w hb) ?_
 ·rcases List.mem_cons.1 hq with rfl | hq
  ·exact hne
  ·exact hni q hq
 walk_nrm
 refine Ag2 F0.swap ?_
 refine Yj I L (g1 _) rfl rfl (by k_ne) hba (fun q hq=>?_) (by decide) (fun w hb=>Ako rfl rfl rfl (Ame _ _) rfl (Apl _ _ A.one hb8) w hb) ?_
 ·rcases List.mem_cons.1 hq with rfl | hq
  ·exact Ne.symm hne
  ·exact hna0 q hq
 walk_nrm
 replace E:=U2 (Low:=Low) I (g3 #[.int .i64 (i : Int)] (el X (i * 8)))
 repeat (first
  | refine Bj E ?_
  | refine Co E ?_
  | refine Ah E ?_
  | refine Ar E ?_
  | refine Ay E ?_
  | refine Az E ?_
  | refine A8 E rfl ?_
  | refine Cc E ?_
  | refine Bv E ?_
  | refine Bq E ?_
  | refine A8 E (by simp [Act.eval]; omega) ?_
  | (refine A9 E rfl rfl (by k_ne) (fun w hF K hK=>?_); go_simp; refine hK _ (by simp [go_sem, *]) ?_; clear hK K hF w; try w_num))
 refine Df E rfl rfl (by k_ne) rfl Tryz.func97 nm36 rfl ?_
 walk_nrmf Tryz.f97
 repeat (first
  | refine Bj E ?_
  | refine Co E ?_
  | refine Ah E ?_
  | refine Ar E ?_
  | refine Ay E ?_
  | refine Az E ?_
  | refine A8 E rfl ?_
  | refine Cc E ?_
  | refine Bv E ?_
  | refine Bq E ?_
  | refine A8 E (by simp [Act.eval]; omega) ?_
  | (refine A9 E rfl rfl (by k_ne) (fun w hF K hK=>?_); go_simp; refine hK _ (by simp [go_sem, *]) ?_; clear hK K hF w; try w_num))
 refine Vh I (g3 _ _) rfl rfl (by k_ne) (fun w=>Ac3 rfl rfl w) (fun bw hbw hnw=>?_)
 walk_nrm
 have g4:=fun x=>(g3 #[.int .i64 (i : Int)] (el X (i * 8))).cons I L (q:=⟨bw,x,234⟩) hbw (by simp)
 refine Vh I (g4 _) rfl rfl (by k_ne) (fun w=>Ac3 rfl rfl w) (fun bf hbf hnf=>?_)
 walk_nrm
 have g5:=fun x y=>(g4 x).cons I L (q:=⟨bf,y,1⟩) hbf (by simp)
 replace E:=U2 (Low:=Low) I (g5 #[pt c.Wg] #[.func (.func 98) #[] #[pt ba,pt bm,pt bi]])
 have gb:=g5 #[pt c.Wg] #[.func (.func 98) #[] #[pt ba,pt bm,pt bi]]
 have hi : c.n - (r + 1) = i:=by omega
 show GoW Tryz.prog true (R0 c) (D0 c Low) (AtKdS c Low (c.n - (r + 1)) (Spawns c r)) (F0 c Low (⟨bf,#[.func (.func 98) #[] #[pt ba,pt bm,pt bi]],1⟩ :: ⟨bw,#[pt c.Wg],234⟩ :: ⟨ba,el X (i * 8),52⟩ :: ⟨bi,#[.int .i64 (i : Int)],3⟩ :: bs0 c bacc bm X)) 74 _
 rw [hi]
 generalize hbs : (⟨bf,#[.func (.func 98) #[] #[pt ba,pt bm,pt bi]],1⟩ :: ⟨bw,#[pt c.Wg],234⟩ :: ⟨ba,el X (i * 8),52⟩ :: ⟨bi,#[.int .i64 (i : Int)],3⟩ :: bs0 c bacc bm X : List Rw) = bs5 at E gb
 have m5 : ∀ q,q ∈ bs5 ↔ (q = ⟨bf,#[.func (.func 98) #[] #[pt ba,pt bm,pt bi]],1⟩ \/ q = ⟨bw,#[pt c.Wg],234⟩ \/ q = ⟨ba,el X (i * 8),52⟩ \/ q = ⟨bi,#[.int .i64 (i : Int)],3⟩ \/ q ∈ bs0 c bacc bm X):=fun q=>by
  rw [<- hbs]; simp only [List.mem_cons]
 have mf:=(m5 _).2 (.inl rfl)
 have mw:=(m5 _).2 (.inr (.inl rfl))
 have ma:=(m5 _).2 (.inr (.inr (.inl rfl)))
 have mi:=(m5 _).2 (.inr (.inr (.inr (.inl rfl))))
 have m0 : ∀ q ∈ bs0 c bacc bm X,q ∈ bs5:=fun q hq=>(m5 _).2 (.inr (.inr (.inr (.inr hq))))
 repeat (first
  | refine Bj E ?_
  | refine Co E ?_
  | refine Ah E ?_
  | refine Ar E ?_
  | refine Ay E ?_
  | refine Az E ?_
  | refine A8 E rfl ?_
  | refine Cc E ?_
  | refine Bv E ?_
  | refine Bq E ?_
  | refine A8 E (by simp [Act.eval]; omega) ?_
  | (refine Cb E rfl rfl (by k_ne) (fun w hF=>(Au rfl rfl Tryz.sizeOf234 Tryz.isAgg234 (cell_of (hF.rows _ mw))).1) (fun w hF=>Yq I gb mw hF.rows (fun e he=>⟨0,by have he:=mem_listed he; rw [(Au rfl rfl Tryz.sizeOf234 Tryz.isAgg234 (cell_of (hF.rows _ mw))).2,Array.mem_singleton] at he; exact he⟩)) ?_; walk_nrm)
  | (refine A9 E rfl rfl (by k_ne) (fun w hF K hK=>?_); go_simp; refine hK _ (by simp [go_sem, *]) ?_; clear hK K hF w; try w_num))
 refine Df E rfl rfl (by k_ne) rfl Tryz.wgLib.f_add (nm_add Tryz.link) (c:=body_add Tryz.link) rfl ?_
 refine Cm E (n:=40) ?_ (by omega)
 walk_nrm
 rw [show (addFn Tryz.link).ntmps - 2 = 115 from rfl]
 have hXc : ∀ w w₁,(HR bs5 w /\ Low <= w.heap.size) -> R0 c w w₁ -> (HR bs5 w₁ /\ Low <= w₁.heap.size):=fun w w₁ h r =>
  ⟨fun q hq=>(r.keep q.b (lt_of_heap (h.1 q hq)) (gb.wg q hq) (gb.cc q hq) (Xg I (h.1 q hq) (gb.ty q hq))).trans (h.1 q hq),Nat.le_trans h.2 r.size⟩
 have ad:=@addX _ Tryz.link c (by rw [I.P]; exact Tryz.wgLib) Low i (Spawns c r) (fun w=>HR bs5 w /\ Low <= w.heap.size) hXc
 rw [I.P] at ad
 refine Ag2 (fun w hF=>⟨⟨hF.rows,hF.low⟩,by rw [I.ty]; exact hF.live⟩) (ad (mT:=40) (fun w hX hl=>?_))
 rw [I.ty] at hl
 have hF0 : F0 c Low bs5 w:=⟨hX.1,hX.2,hl⟩
 clear ad hX hl
 revert w
 show GoW Tryz.prog true (R0 c) (D0 c Low) (AtGo c i (Spawns c r)) (F0 c Low bs5) 40 _
 walk_nrm
 repeat (first
  | refine Bj E ?_
  | refine Co E ?_
  | refine Ah E ?_
  | refine Ar E ?_
  | refine Ay E ?_
  | refine Az E ?_
  | refine A8 E rfl ?_
  | refine Cc E ?_
  | refine Bv E ?_
  | refine Bq E ?_
  | refine A8 E (by simp [Act.eval]; omega) ?_
  | (refine A9 E rfl rfl (by k_ne) (fun w hF K hK=>?_); go_simp; refine hK _ (by simp [go_sem, *]) ?_; clear hK K hF w; try w_num))
 refine Bp E (fun w hF=>?_)
 unfold Phase.AtGo
 rw [I.P]
 refine ⟨rfl,_,_,Wi rfl rfl (by k_ne) rfl rfl,rfl,fun hp=>?_,Tk ?_⟩
 ·rw [<- I.P]
  have hlo:=hF.low
  have bx : ∀ q ∈ bs5,c.base <= q.b -> Box c w.heap.size q.b:=fun q hq hb=>⟨hb,lt_of_heap (hF.rows q hq),gb.wg q hq,gb.cc q hq⟩
  have hbase:=L.ba
  have mm:=m0 ⟨bm,#[sl c.C c.n],122⟩ (by simp [bs0])
  refine works I (bm:=bm) (bi:=bi) (ba:=ba) (bw:=bw) (bf:=bf) ⟨bx _ mm A.bmB,bx _ mi (by show c.base <= bi; omega),bx _ ma (by show c.base <= ba; omega),bx _ mw (by show c.base <= bw; omega),bx _ mf (by show c.base <= bf; omega)⟩ (by omega) (A.short i (by omega)) (A.out i (by omega)) ⟨hF.rows _ mm,hF.rows _ mi,⟨_,hF.rows _ ma,?_⟩,hF.rows _ mw,hF.rows _ mf,hF.live,hp⟩
  rw [Arp _ _ _ (by omega) (by omega)]
  exact A.cod i (by omega)
 ·have L' : Lo c w.heap.size:=⟨Nat.lt_of_lt_of_le L.wg hF.low,Nat.lt_of_lt_of_le L.cc hF.low,Nat.le_trans L.ba hF.low⟩
  replace E:=U2 (Low:=w.heap.size) I g0
  have hw1 : IntKind.i64.wrap ((i : Int) + 1) = (i : Int) + 1:=by have:=A.n31; rw [IntKind.wrap_i64]; omega
  refine ⟨140,?_⟩
  rw [I.P]
  suffices GoW Tryz.prog true (R0 c) (D0 c w.heap.size) (Mv c r w.heap.size) (F0 c w.heap.size (bs0 c bacc bm X)) 140 _ from this w ⟨fun q hq=>hF.rows q (m0 q hq),Nat.le_refl _,hF.live⟩
  walk_nrm
  repeat (first
   | refine Bj E ?_
   | refine Co E ?_
   | refine Ah E ?_
   | refine Ar E ?_
   | refine Ay E ?_
   | refine Az E ?_
   | refine A8 E rfl ?_
   | refine Cc E ?_
   | refine Bv E ?_
   | refine Bq E ?_
   | refine A8 E (by simp [Act.eval]; omega) ?_
   | (refine Aah E ?_)
   | (refine Gj E rfl rfl Tryz.func97 rfl ?_; walk_nrm)
   | (refine A9 E rfl rfl (by k_ne) (fun w hF K hK=>?_); go_simp; refine hK _ (by simp [go_sem, *]) ?_; clear hK K hF w; try w_num))
  rw [show (i : Int) + 1 = ((i + 1 : Nat) : Int) by omega]
  exact Cm E (hN w.heap.size _ _ _ _ _ _ _ _ _ _ _ _ _ _ _ _ L') (by omega)
end
end Go.Mark
