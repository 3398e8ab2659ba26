import Derived.Test.YtbephahokhnccaaGreatDoorXC3toD13
set_option linter.unusedSectionVars false
set_option maxRecDepth 100000
set_option maxHeartbeats 4000000
namespace Go.Mark
open Go.Conc Go.Walk Go.Phase Go.RowKit Go.Conc.Lib Go.ConcR.Gen Go.ConcN.Gen Go.Lift Go.Proofs
open Go.ConcN (WgLive Has RW DWs AtR0 PayAt)
open Go.ConcR (KK WgAt stA smA rd wr mk Payload)
section
theorem Amk (T : Array Value) (h : T.size = 22) : ∃ v0 v1 v2 v3 v4 v5 v6 v7 v8 v9 v10 v11 v12 v13 v14 v15 v16 v17 v18 v19 v20 v21,T = #[v0,v1,v2,v3,v4,v5,v6,v7,v8,v9,v10,v11,v12,v13,v14,v15,v16,v17,v18,v19,v20,v21]:=by
 obtain ⟨l⟩:=T
 simp only [List.size_toArray] at h
 obtain _ | ⟨v0,l⟩:=l
 ·simp at h
 obtain _ | ⟨v1,l⟩:=l
 ·simp at h
 obtain _ | ⟨v2,l⟩:=l
 ·simp at h
 obtain _ | ⟨v3,l⟩:=l
 ·simp at h
 obtain _ | ⟨v4,l⟩:=l
 ·simp at h
 obtain _ | ⟨v5,l⟩:=l
 ·simp at h
 obtain _ | ⟨v6,l⟩:=l
 ·simp at h
 obtain _ | ⟨v7,l⟩:=l
 ·simp at h
 obtain _ | ⟨v8,l⟩:=l
 ·simp at h
 obtain _ | ⟨v9,l⟩:=l
 ·simp at h
 obtain _ | ⟨v10,l⟩:=l
 ·simp at h
 obtain _ | ⟨v11,l⟩:=l
 ·simp at h
 obtain _ | ⟨v12,l⟩:=l
 ·simp at h
 obtain _ | ⟨v13,l⟩:=l
 ·simp at h
 obtain _ | ⟨v14,l⟩:=l
 ·simp at h
 obtain _ | ⟨v15,l⟩:=l
 ·simp at h
 obtain _ | ⟨v16,l⟩:=l
 ·simp at h
 obtain _ | ⟨v17,l⟩:=l
 ·simp at h
 obtain _ | ⟨v18,l⟩:=l
 ·simp at h
 obtain _ | ⟨v19,l⟩:=l
 ·simp at h
 obtain _ | ⟨v20,l⟩:=l
 ·simp at h
 obtain _ | ⟨v21,l⟩:=l
 ·simp at h
 obtain _ | ⟨x,l⟩:=l
 ·exact ⟨v0,v1,v2,v3,v4,v5,v6,v7,v8,v9,v10,v11,v12,v13,v14,v15,v16,v17,v18,v19,v20,v21,rfl⟩
 ·simp at h
def DX (Shun : Loc -> Prop) (w w' : World) (es : Array Event) : Prop:=w.heap.size <= w'.heap.size /\ (∀ e ∈ es,EvX Shun w'.heap.size e) /\ w'.os = w.os /\ w'.output = w.output
def Ig (w w' : World) (es : Array Event) : Prop:=es = #[] /\ w'.os = w.os /\ w'.output = w.output
theorem Ags {Shun : Loc -> Prop} (h : Array Obj) : Env AtRel (DX Shun) (fun w=>w.heap = h) :=
 ⟨fun w w₁ e r=>by obtain ⟨d,rfl⟩:=r; exact e,fun w=>⟨Nat.le_refl _,(fun e he=>by simp at he),rfl,rfl⟩⟩
theorem K6 (h : Array Obj) : Env AtRel Ig (fun w=>w.heap = h) :=
 ⟨fun w w₁ e r=>by obtain ⟨d,rfl⟩:=r; exact e,fun w=>⟨rfl,rfl,rfl⟩⟩
section
variable {R : World -> World -> Prop} {D : World -> World -> Array Event -> Prop} {Stop : Goroutine -> World -> Prop} {h : Array Obj} {n : Nat}
 {fr : Frame} {a : Act} {k : List Item} {cs : List Frame} {ops : Array Oper} {j : Nat} {rest : List Nat} {o : Oper}
theorem Ag4 (E : Env R D (fun w=>w.heap = h)) {v : Value} {h' : Array Obj} (ho : ops[j]? = some o) (hw : Region.wanted o (yielded ops a.tmps) = true) (hk : fr.kind ≠ .early)
  (hr : ∀ w : World,w.heap = h -> ∃ w',(execOp a.eval o).run Tryz.prog w = .ok (.value v) w' /\ D w w' (listed Tryz.prog fr.fn a o w) /\ w'.heap = h')
  (hn : GoW Tryz.prog true R D Stop (fun w=>w.heap = h') n (G (fr.at (a.put o.dst v) (.inRegion ops rest :: k)) cs)) : GoW Tryz.prog true R D Stop (fun w=>w.heap = h) (n + 1) (G (fr.at a (.inRegion ops (j :: rest) :: k)) cs) :=
 fun _ hw'=>Goes.step rfl fun w₁ h₁=>by
  obtain ⟨w',e,hD,hh⟩:=hr w₁ (E.cl _ _ hw' h₁)
  rw [stepG_value ho hw hk e]
  exact ⟨hD,hn _ hh⟩
end
theorem listed_nil {fn : FuncId} {a : Act} {o : Oper} {w : World} (h : (execOp a.eval o).events Tryz.prog w #[] = #[]) : listed Tryz.prog fn a o w = #[]:=by
 unfold listed
 rw [h,seen_none]
theorem Ahj : Tryz.prog.info? 132 = some Tryz.t132:=by kernel_rfl
theorem Aoq : Tryz.prog.info? 122 = some Tryz.t122:=by kernel_rfl
theorem Al4 : Tryz.prog.info? 189 = some Tryz.t189:=by kernel_rfl
def Ih (n : Nat) : Array Value:=madeCells (Value.cells (.slice none 0 0)) n
theorem Aky {o : Oper} {ev : Operand -> Value} {x : Operand} {n : Nat} (hop : o.op = .makeSlice 122 x x) (hx : ev x = .int .i64 (n : Int)) (h31 : n < 2147483648) (w : World) :
  (execOp ev o).run Tryz.prog w = .ok (.value (sl w.heap.size n)) (w.alloc (.cells (Ih n) 132)) /\ (execOp ev o).events Tryz.prog w #[] = #[]:=by
 have hr:=run_make (P:=Tryz.prog) w 122 132 Tryz.t132 (.slice none 0 0) Tryz.underlying122 Ahj rfl .i64 .i64 n n (by omega) (by omega) (by simp only [Tryz.t132]; omega) (by omega)
 have he:=events_make (P:=Tryz.prog) w 122 132 Tryz.t132 (.slice none 0 0) Tryz.underlying122 Ahj rfl .i64 .i64 n n (by omega) (by omega) (by simp only [Tryz.t132]; omega) (by omega) (by simp only [Tryz.t132]; omega) #[]
 simp only [Int.toNat_natCast,Tryz.t132,Nat.mul_one] at hr
 unfold execOp Ih
 constructor
 ·simp only [hop,hx,Sem.run_bind,hr]
  rfl
 ·simp only [hop,hx,Sem.events_bind,hr,he]
  rfl
noncomputable def pre25 : Code:=match Tryz.f60.body with
 | some (.seq a (.seq b _))=>.seq a b
 | _=>.skip
theorem Adq {Shun : Loc -> Prop} {b k B : Nat} {x : Bool} (hs : ¬ Shun (.cell ⟨b,k,none⟩)) (hb : b < B) : EvX Shun B ⟨.cell ⟨b,k,none⟩,x,false⟩:=by
 refine ⟨⟨fun y hy hS=>?_,by simp,by simp,hb⟩,fun y hy=>?_⟩
 ·simp only [MemAct.ofEvent,MemAct.touch?,Option.some.injEq] at hy
  subst hy
  exact absurd hS hs
 ·simp only [MemAct.ofEvent,MemAct.touch?,Option.some.injEq] at hy
  subst hy
  exact ⟨hs,rfl⟩
theorem Ah7 {w : World} {h : Array Obj} {u v : Value} {t : TypeId} (hw : w.heap = h.push (.cells #[u] t)) : (w.setCell ⟨h.size,0,none⟩ v).heap = h.push (.cells #[v] t):=by
 have hb : w.heap[h.size]? = some (.cells #[u] t):=by rw [hw,Array.getElem?_push_size]
 have hA:=aside_setCell w ⟨h.size,0,none⟩ v
 apply Array.ext_getElem?
 intro i
 by_cases e : i = h.size
 ·subst e
  rw [setCell_eq_setRow w h.size 0 #[u] _ (0,0) _ hb,setRow_heap w h.size _ _ _ _ hb,Array.getElem?_push_size]
  rfl
 ·rw [hA.block i e,hw,Array.getElem?_push,Array.getElem?_push]
  simp [e]
section
variable {Shun : Loc -> Prop} {h0 : Array Obj} {bacc n cap : Nat} {cs : List Frame}
def h3 (h0 : Array Obj) (n : Nat) : Array Obj:=(h0.push (.cells (Ih n) 132)).push (.cells #[sl h0.size n] 122)
def h4 (h0 : Array Obj) (n : Nat) : Array Obj:=(h3 h0 n).push (.cells #[.int .u64 0,.int .u32 0] 189)
theorem Aif (h31 : n < 2147483648) (hS : ∀ k,¬ Shun (.cell ⟨h0.size + 1,k,none⟩)) :
  GoW Tryz.prog true AtRel (DX Shun) (fun g w=>g = G ((base 60).at ⟨#[.slice (some ⟨bacc,0,none⟩) n cap,ud,.slice none 0 0,pt (h0.size + 1),ud,ud,ud,.slice (some ⟨bacc,0,none⟩) n cap,.int .i64 (n : Int),sl h0.size n,ud,ud,ud,ud,ud,ud,ud,ud,ud,ud,ud,ud],[]⟩ [.inRegion Xi [0],.code Ja]) cs /\ w.heap = h3 h0 n) (fun w=>w.heap = h0) 60
   (G ((base 60).at ⟨#[.slice (some ⟨bacc,0,none⟩) n cap] ++ Array.replicate 21 ud,[]⟩ [.code (Tryz.f60.body.getD .skip)]) cs):=by
 have E:=Ags (Shun:=Shun) h0
 have e1:=Adp
 obtain ⟨bd,hbd⟩ : ∃ b,b = Ja:=⟨_,rfl⟩
 have hbd':=hbd
 simp only [Ja,Tryz.f60] at hbd'
 rw [<- hbd]
 simp only [Tryz.f60,Option.getD_some]
 rw [<- hbd']
 walk_nrm
 repeat (first
  | refine Bj E ?_
  | refine Ah E ?_
  | refine Ar E ?_
  | refine Bi E ?_
  | (refine A9 E rfl rfl (by k_ne) (fun w hF K hK=>?_); go_simp; refine hK _ (by simp [go_sem, *]) ?_; clear hK K hF w; try w_num))
 refine Ag4 E rfl rfl (by k_ne) (v:=sl h0.size n) (h':=h0.push (.cells (Ih n) 132)) (fun w hw=>?_) ?_
 ·have hm:=fun {o ev x} hop hx=>Aky (o:=o) (ev:=ev) (x:=x) (n:=n) hop hx h31 w
  refine ⟨_,(hm rfl rfl).1.trans (by rw [hw]),⟨by show _ <= (w.heap.push _).size; simp,fun e he=>?_,by rfl,by rfl⟩,by show w.heap.push _ = _; rw [hw]⟩
  have he:=mem_listed he
  rw [(hm rfl rfl).2] at he
  simp at he
 walk_nrm
 replace E:=Ags (Shun:=Shun) (h0.push (.cells (Ih n) 132))
 refine Ag4 E rfl rfl (by k_ne) (v:=pt (h0.size + 1)) (h':=(h0.push (.cells (Ih n) 132)).push (.cells #[.slice none 0 0] 122)) (fun w hw=>?_) ?_
 ·have hm:=fun {o ev} hop=>Jr (o:=o) (ev:=ev) hop Tryz.zeroValue122 (Pt 122 Aoq rfl) w
  refine ⟨_,(hm rfl).1.trans (by rw [hw,Array.size_push]),⟨by show _ <= (w.heap.push _).size; simp,fun e he=>?_,by rfl,by rfl⟩,by show w.heap.push _ = _; rw [hw]; rfl⟩
  have he:=mem_listed he
  rw [(hm rfl).2] at he
  simp at he
 walk_nrm
 replace E:=Ags (Shun:=Shun) ((h0.push (.cells (Ih n) 132)).push (.cells #[.slice none 0 0] 122))
 refine Ns E (v:=sl h0.size n) (ad:=⟨h0.size + 1,0,none⟩) (F':=fun w=>w.heap = h3 h0 n) rfl rfl (by k_ne) rfl rfl rfl (fun _=>by simp) (fun _=>by simp) Tryz.sizeOf122 (fun w hw=>?_) ?_
 ·have hb : w.heap[h0.size + 1]? = some (.cells #[.slice none 0 0] 122):=by
   rw [hw,show h0.size + 1 = (h0.push (.cells (Ih n) 132)).size by simp,Array.getElem?_push_size]
  have hsz : (w.setCell ⟨h0.size + 1,0,none⟩ (sl h0.size n)).heap.size = w.heap.size:=(aside_setCell w _ _).size
  refine ⟨⟨_,cell_of hb⟩,by simp [World.frozen?,hb],fun es hes=>⟨Nat.le_of_eq hsz.symm,fun e he=>?_,(aside_setCell w _ _).os,(aside_setCell w _ _).output⟩,?_⟩
  ·rw [hes e he]
   exact Adq (hS 0) (by rw [hsz]; exact lt_of_heap hb)
  ·have:=Ah7 (v:=sl h0.size n) hw
   rw [Array.size_push] at this
   exact this
 replace E:=Ags (Shun:=Shun) (h3 h0 n)
 walk_nrm
 refine Ah E ?_
 refine Bj E ?_
 refine Ar E ?_
 exact Bp E (fun w hw=>⟨rfl,hw⟩)
theorem Akf :
  GoW Tryz.prog true AtRel Ig (fun g w=>g = G ((base 60).at ⟨#[.slice (some ⟨bacc,0,none⟩) n cap,ud,.slice none 0 0,pt (h0.size + 1),pt (h0.size + 2),ud,ud,.slice (some ⟨bacc,0,none⟩) n cap,.int .i64 (n : Int),sl h0.size n,ud,ud,ud,ud,ud,ud,ud,ud,ud,ud,ud,ud],[]⟩ [.inRegion Xi [],.code Ja]) cs /\ w.heap = h4 h0 n) (fun w=>w.heap = h3 h0 n) 5
   (G ((base 60).at ⟨#[.slice (some ⟨bacc,0,none⟩) n cap,ud,.slice none 0 0,pt (h0.size + 1),ud,ud,ud,.slice (some ⟨bacc,0,none⟩) n cap,.int .i64 (n : Int),sl h0.size n,ud,ud,ud,ud,ud,ud,ud,ud,ud,ud,ud,ud],[]⟩ [.inRegion Xi [0],.code Ja]) cs):=by
 have E:=K6 (h3 h0 n)
 refine Ag4 E rfl rfl (by k_ne) (v:=pt (h0.size + 2)) (h':=h4 h0 n) (fun w hw=>?_) ?_
 ·have hm:=fun {o ev} hop=>Jr (o:=o) (ev:=ev) hop Tryz.zeroValue189 (Pt 189 Al4 rfl) w
  have hsz : w.heap.size = h0.size + 2:=by rw [hw]; simp [h3]
  refine ⟨_,(hm rfl).1.trans (by rw [hsz]),⟨listed_nil (hm rfl).2,by rfl,by rfl⟩,by show w.heap.push _ = _; rw [hw]; rfl⟩
 exact Bp (K6 (h4 h0 n)) (fun w hw=>⟨rfl,hw⟩)
end
end
section
section
variable {Shun : Loc -> Prop} {h : Array Obj} {bm C n : Nat} {acc : Value} {T : Array Value} {b₀ : Frame} {a₀ : Act} {ops₀ : Array Oper} {i₀ : Nat} {rest₀ : List Nat} {k₀ : List Item} {cs : List Frame}
theorem Aep (hT : Acp bm acc T) (hb : h[bm]? = some (.cells #[sl C n] 122)) (hS : ∀ k,¬ Shun (.cell ⟨bm,k,none⟩)) :
  GoW Tryz.prog true AtRel (DX Shun) (fun g w=>g = G (b₀.at (a₀.put ((ops₀[i₀]?).bind (·.dst)) (sl C n)) (.inRegion ops₀ rest₀ :: k₀)) cs /\ w.heap = h) (fun w=>w.heap = h) 30 (G (Aco T) (b₀.at a₀ (.inRegion ops₀ (i₀ :: rest₀) :: k₀) :: cs)):=by
 have E:=Ags (Shun:=Shun) h
 obtain ⟨h1,h2,h3⟩:=hT
 obtain ⟨v0,v1,v2,v3,v4,v5,v6,v7,v8,v9,v10,v11,v12,v13,v14,v15,v16,v17,v18,v19,v20,v21,rfl⟩:=Amk T h1
 simp only [List.getElem?_toArray,List.getElem?_cons_succ,List.getElem?_cons_zero,Option.some.injEq] at h2 h3
 subst h3
 clear h1 h2
 unfold Aco
 refine Ah E ?_
 simp only [Tc,Gp,Tryz.f60]
 have hc : ∀ w : World,w.heap = h -> w.cell? ⟨bm,0,none⟩ = some (sl C n):=fun w hw=>by rw [<- hw] at hb; exact cell_of hb
 repeat (first
  | refine Bj E ?_
  | refine Ah E ?_
  | refine Ay E ?_
  | refine Di E ?_
  | (refine Cb E rfl rfl (by k_ne) (fun w hw=>(Au rfl rfl Tryz.sizeOf122 Tryz.isAgg122 (hc w hw)).1) (fun w hw=>⟨Nat.le_refl _,(fun e he=>by have he:=mem_listed he; rw [(Au rfl rfl Tryz.sizeOf122 Tryz.isAgg122 (hc w hw)).2,Array.mem_singleton] at he; subst he; exact Adq (hS 0) (by rw [<- hw] at hb; exact lt_of_heap hb)),rfl,rfl⟩) ?_; walk_nrm)
  | (refine A9 E rfl rfl (by k_ne) (fun w hF K hK=>?_); go_simp; refine hK _ (by simp [go_sem, *]) ?_; clear hK K hF w; try w_num))
 refine Dp E rfl rfl Tryz.func60 rfl ?_
 exact Bp E (fun w hw=>⟨rfl,hw⟩)
end
theorem Akx {Shun : Loc -> Prop} {D : World -> World -> Array Event -> Prop} {Stop : Goroutine -> World -> Prop} {β : World -> Nat} (hβ : ∀ w d,β (w.at d) = β w) (hD : ∀ w w' es,D w w' es -> β w <= β w' /\ ∀ e ∈ es,EvX Shun (β w') e) {a : Goroutine} {w : World} {k N : Nat} {m : Machine} {t : Trace}
  (hg : Goes Tryz.prog true AtRel D Stop k a w) (hs : Dv Tryz.prog Shun (β w) N a w m t) : Runs Tryz.prog m t fun m' t'=>∃ a' w',Stop a' w' /\ Dv Tryz.prog Shun (β w') N a' w' m' t' :=
 M9 hβ hD (Iw _ _ _ hg) ⟨w.drawn,rfl⟩ hs
theorem Adk {P : Program} {main : Bool} {D : World -> World -> Array Event -> Prop} {Stop : Goroutine -> World -> Prop} (hO : ∀ w w' es,D w w' es -> w'.os = w.os /\ w'.output = w.output) (x : World) : ∀ (n : Nat) (a : Goroutine) (w : World),(w.os = x.os /\ w.output = x.output) -> Goes P main AtRel D Stop n a w -> Goes P main AtRel D (fun g w₁=>Stop g w₁ /\ w₁.os = x.os /\ w₁.output = x.output) n a w
 | 0,_,w,hw,hg=>fun w₁ h₁=>⟨hg w₁ h₁,by obtain ⟨d,rfl⟩:=h₁; exact hw⟩
 | n + 1,a,w,hw,hg=>by
  rcases hg with hg | ⟨hrun,hg⟩
  ·exact .inl fun w₁ h₁=>⟨hg w₁ h₁,by obtain ⟨d,rfl⟩:=h₁; exact hw⟩
  ·refine .inr ⟨hrun,fun w₁ h₁=>?_⟩
   have hg:=hg w₁ h₁
   have hw1 : w₁.os = x.os /\ w₁.output = x.output:=by obtain ⟨d,rfl⟩:=h₁; exact hw
   generalize stepG P main a w₁ = st at hg
   cases st with
   | go g w' es =>
    simp only [goes_go] at hg ⊢
    exact ⟨hg.1,Adk hO x n g w' ⟨(hO _ _ _ hg.1).1.trans hw1.1,(hO _ _ _ hg.1).2.trans hw1.2⟩ hg.2⟩
   | _=>exact hg.elim
theorem Po {Shun : Loc -> Prop} {D : World -> World -> Array Event -> Prop} {Stop : Goroutine -> World -> Prop} {β : World -> Nat} (hβ : ∀ w d,β (w.at d) = β w) (hD : ∀ w w' es,D w w' es -> β w <= β w' /\ ∀ e ∈ es,EvX Shun (β w') e) (hO : ∀ w w' es,D w w' es -> w'.os = w.os /\ w'.output = w.output) {a : Goroutine} {w : World} {k N : Nat} {m : Machine} {t : Trace}
  (hg : Goes Tryz.prog true AtRel D Stop k a w) (hs : Dv Tryz.prog Shun (β w) N a w m t) : Runs Tryz.prog m t fun m' t'=>∃ a' w',Stop a' w' /\ (w'.os = w.os /\ w'.output = w.output) /\ Dv Tryz.prog Shun (β w') N a' w' m' t' :=
 (Akx hβ hD (Adk hO w _ _ _ ⟨rfl,rfl⟩ hg) hs).mono fun _ _ ⟨a',w',⟨h1,h2⟩,h3⟩=>⟨a',w',h1,h2,h3⟩
structure Ane (Shun : Loc -> Prop) (bacc n : Nat) (X : Array Value) (code : Nat -> ByteArray) (w : World) : Prop where
 row : w.heap[bacc]? = some (.cells X 52)
 size : n * 8 <= X.size
 one : X.all (·.oneCell') = true
 cod : ∀ i,i < n -> X[i * 8 + 6]? = some (.string (code i))
 short : ∀ i,i < n -> (code i).size < 2147483648
 n31 : n < 2147483648
 sh : ∀ a : Addr,a.block = bacc -> ¬ Shun (.cell a)
 low : ∀ l,Shun l -> ∃ a : Addr,l = .cell a /\ a.block < w.heap.size
structure Found (n : Nat) (code : Nat -> ByteArray) (w w' : World) : Prop where
 frame : ∀ b,b < w.heap.size -> w'.heap[b]? = w.heap[b]?
 grown : w.heap.size + 3 <= w'.heap.size
 pay : ∃ cs,w'.heap[w.heap.size]? = some (.cells cs 132) /\ cs.size = n
 cell : ∀ i,i < n -> ∃ b,w.heap.size <= b /\ w'.heap[b]? = some (.cells (marks (code i) (code i).size 0 (zeros (code i).size)) 4) /\ w'.cell? ⟨w.heap.size,i,none⟩ = some (sl b (code i).size) /\ b ≠ w.heap.size + 2
 tidy : ∀ (b : Nat) (o : Obj),w.heap.size <= b -> w'.heap[b]? = some o -> ∃ x e,o = .cells x e
 os : w'.os = w.os /\ w'.output = w.output
theorem Ahk {h0 : Array Obj} {n b : Nat} (hb : b < h0.size) : (h4 h0 n)[b]? = h0[b]?:=by
 unfold h4 h3
 rw [Array.getElem?_push,if_neg (by simp; omega),Array.getElem?_push,if_neg (by simp; omega),Array.getElem?_push,if_neg (by omega)]
theorem Al5 (h0 : Array Obj) (n : Nat) : (h4 h0 n).size = h0.size + 3:=by simp [h4,h3]
theorem h4_C (h0 : Array Obj) (n : Nat) : (h4 h0 n)[h0.size]? = some (.cells (Ih n) 132):=by
 unfold h4 h3
 rw [Array.getElem?_push,if_neg (by simp; omega),Array.getElem?_push,if_neg (by simp),Array.getElem?_push_size]
theorem h4_m (h0 : Array Obj) (n : Nat) : (h4 h0 n)[h0.size + 1]? = some (.cells #[sl h0.size n] 122):=by
 unfold h4 h3
 rw [Array.getElem?_push,if_neg (by simp),Array.getElem?_push,if_pos (by simp)]
theorem h4_W (h0 : Array Obj) (n : Nat) : (h4 h0 n)[h0.size + 2]? = some (.cells #[.int .u64 0,.int .u32 0] 189):=by
 unfold h4
 rw [Array.getElem?_push,if_pos (by simp [h3])]
theorem Ry {Shun : Loc -> Prop} {bacc n cap o : Nat} {X : Array Value} {code : Nat -> ByteArray} {b₀ : Frame} {a₀ : Act} {ops₀ : Array Oper} {i₀ : Nat} {rest₀ : List Nat} {k₀ : List Item} {cs : List Frame} {w : World} {m : Machine} {t : Trace}
  (A : Ane Shun bacc n X code w) (hn : o + n < 2147483647)
  (hst : Dv Tryz.prog Shun w.heap.size (o + 1) (G ((base 60).at ⟨#[.slice (some ⟨bacc,0,none⟩) n cap] ++ Array.replicate 21 ud,[]⟩ [.code (Tryz.f60.body.getD .skip)]) (b₀.at a₀ (.inRegion ops₀ (i₀ :: rest₀) :: k₀) :: cs)) w m t) :
  Runs Tryz.prog m t fun m' t'=>∃ w',Found n code w w' /\ Dv Tryz.prog (fun l=>Shun l \/ Go.ConcN.ShN (w.heap.size + 2) l) w'.heap.size (o + n + 1) (G (b₀.at (a₀.put ((ops₀[i₀]?).bind (·.dst)) (sl w.heap.size n)) (.inRegion ops₀ rest₀ :: k₀)) cs) w' m' t':=by
 have hnew : ∀ b k,w.heap.size <= b -> ¬ Shun (.cell ⟨b,k,none⟩):=fun b k hb hs=>by
  obtain ⟨a,e,hlt⟩:=A.low _ hs
  cases e
  simp only at hlt
  omega
 refine (Po (D:=DX Shun) (β:=fun w=>w.heap.size) (fun _ _=>rfl) (fun _ _ _ h=>⟨h.1,h.2.1⟩) (fun _ _ _ h=>h.2.2) (Aif A.n31 (fun k=>hnew _ k (by omega)) w rfl) hst).then fun m1 t1 h1=>?_
 obtain ⟨a1,w1,⟨rfl,hh1⟩,ho1,hst1⟩:=h1
 have hsz1 : w1.heap.size = w.heap.size + 2:=by rw [hh1]; simp [h3]
 refine (Po (D:=Ig) (β:=fun _=>w.heap.size + 2) (fun _ _=>rfl) (fun _ _ es h=>⟨Nat.le_refl _,fun e he=>by rw [h.1] at he; simp at he⟩) (fun _ _ _ h=>h.2) (Akf (h0:=w.heap) w1 hh1) (by rw [hsz1] at hst1; exact hst1)).then fun m2 t2 h2=>?_
 obtain ⟨a2,w2,⟨rfl,hh2⟩,ho2,hst2⟩:=h2
 have hb : bacc < w.heap.size:=lt_of_heap A.row
 have hsz2 : w2.heap.size = w.heap.size + 3:=by rw [hh2,Al5]
 have AA : Acc (Dh (w.heap.size + 2) w.heap.size n w.heap.size o Shun (w.heap.size + 1) bacc cap X code (b₀.at a₀ (.inRegion ops₀ (i₀ :: rest₀) :: k₀) :: cs)) (w.heap.size + 1) bacc X code:=by
  refine ⟨⟨fun q hq=>?_,fun q hq=>?_,fun q hq=>?_,fun q hq a ha=>?_⟩,A.size,A.one,A.cod,A.short,fun i hi w b h1 h2=>⟨h1,h2⟩,A.n31,by show w.heap.size <= w.heap.size + 1; omega⟩ <;> simp only [bs0,List.mem_cons,List.not_mem_nil,or_false] at hq <;> rcases hq with rfl | rfl
  ·show bacc ≠ w.heap.size + 2; omega
  ·show w.heap.size + 1 ≠ w.heap.size + 2; omega
  ·show bacc ≠ w.heap.size; omega
  ·show w.heap.size + 1 ≠ w.heap.size; omega
  ·show (52 : Nat) ≠ 4; decide
  ·show (122 : Nat) ≠ 4; decide
  ·exact A.sh a ha
  ·intro hs
   obtain ⟨a',e,hlt⟩:=A.low _ hs
   cases e
   simp only at ha
   omega
 refine (Ak9 (Wg:=w.heap.size + 2) (C:=w.heap.size) (n:=n) (bse:=w.heap.size) (o:=o) (Shun:=Shun) (bm:=w.heap.size + 1) (bacc:=bacc) (cap:=cap) (X:=X) (code:=code) (by omega) (Nat.le_refl _) (by omega) A.low AA hn (w:=w2) (by omega) (by omega) (fun q hq=>?_) ?_ ?_ (fun b o' hb' ho=>?_) (B0:=w.heap.size + 2) (Nat.le_refl _) hst2).then fun m3 t3 h3'=>?_
 ·simp only [bs0,List.mem_cons,List.not_mem_nil,or_false] at hq
  rcases hq with rfl | rfl
  ·show w2.heap[bacc]? = _
   rw [hh2,Ahk hb]
   exact A.row
  ·show w2.heap[w.heap.size + 1]? = _
   rw [hh2,h4_m]
   rfl
 ·show w2.heap[w.heap.size + 2]? = _
  rw [hh2,h4_W]
  rfl
 ·exact ⟨_,by rw [hh2,h4_C]; rfl,size_madeCells _ _⟩
 ·replace hb' : w.heap.size <= b:=hb'
  have hlt:=lt_of_heap ho
  rw [hsz2] at hlt
  rw [hh2] at ho
  rcases (by omega : b = w.heap.size \/ b = w.heap.size + 1 \/ b = w.heap.size + 2) with rfl | rfl | rfl
  ·rw [h4_C] at ho; cases ho; exact ⟨_,_,rfl⟩
  ·rw [h4_m] at ho; cases ho; exact ⟨_,_,rfl⟩
  ·rw [h4_W] at ho; cases ho; exact ⟨_,_,rfl⟩
 obtain ⟨T,w3,hT,M,hst3⟩:=h3'
 have hbm : w3.heap[w.heap.size + 1]? = some (.cells #[sl w.heap.size n] 122):=M.rows ⟨w.heap.size + 1,#[sl w.heap.size n],122⟩ (List.mem_cons_of_mem _ List.mem_cons_self)
 refine (Po (D:=DX _) (β:=fun w=>w.heap.size) (fun _ _=>rfl) (fun _ _ _ h=>⟨h.1,h.2.1⟩) (fun _ _ _ h=>h.2.2) (Aep hT hbm (fun k hs=>?_) w3 rfl) hst3).mono fun m4 t4 h4'=>?_
 ·rcases hs with hs | ⟨a,e,hb⟩
  ·exact hnew _ k (by omega) hs
  ·cases e
   simp only at hb
   change w.heap.size + 1 = w.heap.size + 2 at hb
   omega
 obtain ⟨a4,w4,⟨rfl,hh4⟩,ho4,hst4⟩:=h4'
 have hc : ∀ b : Nat,w4.heap[b]? = w3.heap[b]?:=fun b=>by rw [hh4]
 have hce : ∀ ad,w4.cell? ad = w3.cell? ad:=fun ad=>by simp only [World.cell?,hh4]
 refine ⟨w4,⟨fun b hb'=>?_,?_,?_,fun i hi=>?_,fun b o' hb' ho=>M.tidy b o' hb' ((hc b).symm.trans ho),⟨((ho4.1.trans M.os.1).trans ho2.1).trans ho1.1,((ho4.2.trans M.os.2).trans ho2.2).trans ho1.2⟩⟩,hst4⟩
 ·rw [hc,M.frame b hb',hh2,Ahk hb']
 ·have:=M.low.2.1
  rw [hh4]
  exact this
 ·obtain ⟨x,h1,h2⟩:=M.pay
  exact ⟨x,(hc _).trans h1,h2⟩
 ·obtain ⟨b,h1,_,h3,h4⟩:=M.out i hi
  exact ⟨b,h1,(hc b).trans h3,(hce _).trans h4,fun e=>by
   have hw : w3.heap[w.heap.size + 2]? = _:=M.wg
   rw [<- e,h3] at hw
   injection hw with hw
   injection hw with _ hw _
   exact absurd hw (show ¬ (4 : Nat) = 189 by decide)⟩
end
end Go.Mark
