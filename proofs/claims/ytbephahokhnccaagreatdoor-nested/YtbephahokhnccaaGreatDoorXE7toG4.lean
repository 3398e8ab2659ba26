import Derived.Shelf.SlSortCmp.WholeK
import Derived.Test.YtbephahokhnccaaGreatDoorE5
import Derived.Test.YtbephahokhnccaaGreatDoorXM4toK5
import Derived.Shelf.SlIterI.Nil
set_option maxRecDepth 100000
set_option maxHeartbeats 4000000
namespace Go.Proofs
open Go.Mark Go.RowKit Go.Sort Go.Shelf
def TryQ.sortW_ren : Go.Shelf.Ren:=⟨fun | 6=>203 | 15=>160 | 14=>235 | 28=>200 | 29=>201 | 20=>265 | 21=>266 | 22=>267 | 23=>268 | 24=>269 | 25=>270 | 26=>271 | 27=>272 | 46=>308 | 47=>229 | 48=>230 | 49=>309 | 50=>310 | 57=>339 | n=>n,fun | 22=>201 | 24=>41 | 25=>252 | 3=>3 | 39=>93 | 0=>0 | 53=>187 | 55=>39 | 4=>4 | 46=>280 | 45=>279 | 50=>284 | 5=>5 | 9=>9 | 66=>308 | 70=>311 | 76=>339 | 77=>340 | n=>n,fun | n=>n⟩
theorem TryQ.sortW : Go.Proofs.SlLaysF0.n6 TryQ.prog TryQ.sortW_ren where
 mixed:=by kernel_rfl
 f6:=⟨ "slices.SortFunc[[]purser/api.Word,purser/api.Word]",by decide,TryQ.func203.trans (congrArg some (by kernel_rfl))⟩
 f14:=⟨ "slices.pdqsortCmpFunc[purser/api.Word]",by decide,TryQ.func235.trans (congrArg some (by kernel_rfl))⟩
 f15:=TryQ.func160.trans (congrArg some (by kernel_rfl))
 f20:=⟨ "slices.insertionSortCmpFunc[purser/api.Word]",by decide,TryQ.func265.trans (congrArg some (by kernel_rfl))⟩
 f21:=⟨ "slices.heapSortCmpFunc[purser/api.Word]",by decide,TryQ.func266.trans (congrArg some (by kernel_rfl))⟩
 f22:=⟨ "slices.breakPatternsCmpFunc[purser/api.Word]",by decide,TryQ.func267.trans (congrArg some (by kernel_rfl))⟩
 f23:=⟨ "slices.choosePivotCmpFunc[purser/api.Word]",by decide,TryQ.func268.trans (congrArg some (by kernel_rfl))⟩
 f24:=⟨ "slices.reverseRangeCmpFunc[purser/api.Word]",by decide,TryQ.func269.trans (congrArg some (by kernel_rfl))⟩
 f25:=⟨ "slices.partialInsertionSortCmpFunc[purser/api.Word]",by decide,TryQ.func270.trans (congrArg some (by kernel_rfl))⟩
 f26:=⟨ "slices.partitionEqualCmpFunc[purser/api.Word]",by decide,TryQ.func271.trans (congrArg some (by kernel_rfl))⟩
 f27:=⟨ "slices.partitionCmpFunc[purser/api.Word]",by decide,TryQ.func272.trans (congrArg some (by kernel_rfl))⟩
 f28:=TryQ.func200.trans (congrArg some (by kernel_rfl))
 f29:=TryQ.func201.trans (congrArg some (by kernel_rfl))
 f46:=⟨ "slices.siftDownCmpFunc[purser/api.Word]",by decide,TryQ.func308.trans (congrArg some (by kernel_rfl))⟩
 f47:=TryQ.func229.trans (congrArg some (by kernel_rfl))
 f48:=TryQ.func230.trans (congrArg some (by kernel_rfl))
 f49:=⟨ "slices.medianAdjacentCmpFunc[purser/api.Word]",by decide,TryQ.func309.trans (congrArg some (by kernel_rfl))⟩
 f50:=⟨ "slices.medianCmpFunc[purser/api.Word]",by decide,TryQ.func310.trans (congrArg some (by kernel_rfl))⟩
 f57:=⟨ "slices.order2CmpFunc[purser/api.Word]",by decide,TryQ.func339.trans (congrArg some (by kernel_rfl))⟩
 t0:=(Ab 0).trans Tryz.underlying0
 a0:=fun w=>(Ak 0 w).trans (Tryz.isAgg0 w)
 z0:=fun w=>(Ag 0 w).trans (Tryz.sizeOf0 w)
 v0:=fun w=>(Af 0 w).trans (Tryz.zeroValue0 w)
 t3:=(Ab 3).trans Tryz.underlying3
 a3:=fun w=>(Ak 3 w).trans (Tryz.isAgg3 w)
 z3:=fun w=>(Ag 3 w).trans (Tryz.sizeOf3 w)
 v3:=fun w=>(Af 3 w).trans (Tryz.zeroValue3 w)
 t4:=(Ab 4).trans Tryz.underlying4
 a4:=fun w=>(Ak 4 w).trans (Tryz.isAgg4 w)
 z4:=fun w=>(Ag 4 w).trans (Tryz.sizeOf4 w)
 v4:=fun w=>(Af 4 w).trans (Tryz.zeroValue4 w)
 t5:=(Ab 5).trans Tryz.underlying5
 a5:=fun w=>(Ak 5 w).trans (Tryz.isAgg5 w)
 z5:=fun w=>(Ag 5 w).trans (Tryz.sizeOf5 w)
 v5:=fun w=>(Af 5 w).trans (Tryz.zeroValue5 w)
 t9:=(Ab 9).trans Tryz.underlying9
 a9:=fun w=>(Ak 9 w).trans (Tryz.isAgg9 w)
 z9:=fun w=>(Ag 9 w).trans (Tryz.sizeOf9 w)
 v9:=fun w=>(Af 9 w).trans (Tryz.zeroValue9 w)
 t22:=(Ab 201).trans Tryz.underlying201
 a22:=fun w=>(Ak 201 w).trans (Tryz.isAgg201 w)
 z22:=fun w=>(Ag 201 w).trans (Tryz.sizeOf201 w)
 v22:=fun w=>(Af 201 w).trans (Tryz.zeroValue201 w)
 t25:=(Ab 252).trans Tryz.underlying252
 a25:=fun w=>(Ak 252 w).trans (Tryz.isAgg252 w)
 z25:=fun w=>(Ag 252 w).trans (Tryz.sizeOf252 w)
 v25:=fun w=>(Af 252 w).trans (Tryz.zeroValue252 w)
 t39:=(Ab 93).trans Tryz.underlying93
 a39:=fun w=>(Ak 93 w).trans (Tryz.isAgg93 w)
 z39:=fun w=>(Ag 93 w).trans (Tryz.sizeOf93 w)
 v39:=fun w=>(Af 93 w).trans (Tryz.zeroValue93 w)
 t45:=(Ab 279).trans Tryz.underlying279
 a45:=fun w=>(Ak 279 w).trans (Tryz.isAgg279 w)
 z45:=fun w=>(Ag 279 w).trans (Tryz.sizeOf279 w)
 v45:=fun w=>(Af 279 w).trans (Tryz.zeroValue279 w)
 t46:=(Ab 280).trans Tryz.underlying280
 a46:=fun w=>(Ak 280 w).trans (Tryz.isAgg280 w)
 z46:=fun w=>(Ag 280 w).trans (Tryz.sizeOf280 w)
 v46:=fun w=>(Af 280 w).trans (Tryz.zeroValue280 w)
 t50:=(Ab 284).trans Tryz.underlying284
 a50:=fun w=>(Ak 284 w).trans (Tryz.isAgg284 w)
 z50:=fun w=>(Ag 284 w).trans (Tryz.sizeOf284 w)
 v50:=fun w=>(Af 284 w).trans (Tryz.zeroValue284 w)
 t53:=(Ab 187).trans Tryz.underlying187
 a53:=fun w=>(Ak 187 w).trans (Tryz.isAgg187 w)
 z53:=fun w=>(Ag 187 w).trans (Tryz.sizeOf187 w)
 v53:=fun w=>(Af 187 w).trans (Tryz.zeroValue187 w)
 t55:=(Ab 39).trans Tryz.underlying39
 a55:=fun w=>(Ak 39 w).trans (Tryz.isAgg39 w)
 z55:=fun w=>(Ag 39 w).trans (Tryz.sizeOf39 w)
 v55:=fun w=>(Af 39 w).trans (Tryz.zeroValue39 w)
 t66:=(Ab 308).trans Tryz.underlying308
 a66:=fun w=>(Ak 308 w).trans (Tryz.isAgg308 w)
 z66:=fun w=>(Ag 308 w).trans (Tryz.sizeOf308 w)
 v66:=fun w=>(Af 308 w).trans (Tryz.zeroValue308 w)
 t70:=(Ab 311).trans Tryz.underlying311
 a70:=fun w=>(Ak 311 w).trans (Tryz.isAgg311 w)
 z70:=fun w=>(Ag 311 w).trans (Tryz.sizeOf311 w)
 v70:=fun w=>(Af 311 w).trans (Tryz.zeroValue311 w)
 t76:=(Ab 339).trans Tryz.underlying339
 a76:=fun w=>(Ak 339 w).trans (Tryz.isAgg339 w)
 z76:=fun w=>(Ag 339 w).trans (Tryz.sizeOf339 w)
 v76:=fun w=>(Af 339 w).trans (Tryz.zeroValue339 w)
 t77:=(Ab 340).trans Tryz.underlying340
 a77:=fun w=>(Ak 340 w).trans (Tryz.isAgg340 w)
 z77:=fun w=>(Ag 340 w).trans (Tryz.sizeOf340 w)
 v77:=fun w=>(Af 340 w).trans (Tryz.zeroValue340 w)
end Go.Proofs
namespace Go.Mark
open Go.RowKit Go.Proofs Go.Maps Go.Sort Go.Shelf
theorem Anj {m n : Nat} (hm : m < M) (hn : n < M) (h : wd m = wd n) : m = n:=by
 unfold wd at h
 simp only [Value.agg.injEq] at h
 have h':=congrArg Array.toList h
 simp at h'
 exact Ac9 m n hm hn h'.1 h'.2.1 h'.2.2.1 h'.2.2.2
open Classical in
noncomputable def dw (v : Value) : Nat:=if h : ∃ k,k < M /\ v = wd k then h.choose else 0
theorem Arq {k : Nat} (hk : k < M) : dw (wd k) = k:=by
 have h : ∃ j,j < M /\ wd k = wd j:=⟨k,hk,rfl⟩
 unfold dw
 rw [dif_pos h]
 exact (Anj hk h.choose_spec.1 h.choose_spec.2).symm
theorem Aad : ∀ {l : List Nat},(∀ k ∈ l,k < M) -> (l.map wd).map dw = l
 | [],_=>rfl
 | k :: l,h=>by rw [List.map_cons,List.map_cons,Arq (h k (List.mem_cons_self ..)),Aad (fun j hj=>h j (List.mem_cons_of_mem _ hj))]
theorem u91 : TryQ.prog.underlying 133 = some (.map 41 41):=(Ab 133).trans Tryz.underlying133
theorem Aon (n : Nat) (hn : 1 <= n) (lp Bm b : Nat) (l : List (Nat × Value)) (hl : ∀ p ∈ l,p.1 < M) (J : List Nat -> World -> Prop)
  (hY : ∀ pre x W1,J pre W1 -> pre.length < l.length -> YieldAt Fence.wide (n - 1) TryQ.prog lp #[wd x] W1 fun e W'=>e = .returned (.bool true) /\ J (pre ++ [x]) W' /\ KeepsWalks W1 W')
  (W : World) (hJ : AbidesFrom W.heap.size J) (hm : W.cell? ⟨Bm,0,none⟩ = some (.map (some b))) (hM : MapB wd W b l) (h0 : J [] W) :
  CallsIn Fence.wide n TryQ.prog 204 #[.func (.yield lp) #[] #[],pq Bm 0] W fun e W'=>(∃ v,e = .returned v) /\ ∃ ss : List Nat,ss.Perm (l.map (·.1)) /\ J ss W':=by
 have hbl:=hM.lt
 obtain ⟨es,clock,hb,hR,hS⟩:=hM
 have hrange:=run_range_map (P:=TryQ.prog) W 133 41 41 b es clock u91 hb
 have hI0:=IterAt.start hb hS
 have hlen : es.toList.length = l.length:=by have:=congrArg List.length hR; simpa using this
 have hkey : ∀ e ∈ es.toList,∃ k,k < M /\ e.key = wd k:=fun e he=>by
  have : (e.key,e.val) ∈ es.toList.map fun e=>(e.key,e.val):=List.mem_map_of_mem he
  rw [hR] at this
  obtain ⟨p,hp,e1⟩:=List.mem_map.1 this
  exact ⟨p.1,hl p hp,(Prod.mk.inj e1).1.symm⟩
 have hkeys : es.toList.map (·.key) = (l.map (·.1)).map wd:=by
  have:=congrArg (List.map Prod.fst) hR
  rw [List.map_map,List.map_map] at this
  rw [List.map_map]
  exact this
 refine callsIn_of_wp TryQ.func204 rfl trivial ?_ rfl
 simp only [Tryz.ntmps204,List.size_toArray,List.length_cons,List.length_nil,Nat.reduceAdd,Nat.reduceSub,Array.replicate_succ,Array.replicate_zero,List.push_toArray,List.append_toArray,List.nil_append,List.cons_append]
 gi_wp2
 have hJ1 : J [] (W.alloc (.mapIter (some b) clock #[] clock)):=hJ [] W _ none h0 (World.grownBy_alloc W _ none) (fun r e=>by cases e)
 generalize W.alloc (.mapIter (some b) clock #[] clock) = w0 at hI0 hJ1 ⊢
 gi_loopw [] (fun wr=>∃ (pre : List MapEntry) (ss : List Nat),IterAt wr b W.heap.size es clock pre /\ pre.map (·.key) = ss.map wd /\ (∀ k ∈ ss,k < M) /\ pre.length + (leftOf es (pre.map (·.born)).toArray).size <= es.size /\ J ss wr)
  (fun wr=>wr.rangeLeft b W.heap.size)
 case atStart=>exact ⟨[],[],hI0,rfl,by simp,(by show 0 + (leftOf es _).size <= _; rw [Nat.zero_add]; exact Array.size_filter_le),hJ1⟩
 case round =>
  obtain ⟨pre,ss,hI,hpk,hss,hcnt,hJs⟩:=hrel
  have hbr : b ≠ W.heap.size:=by omega
  have hpl : ss.length = pre.length:=by have:=congrArg List.length hpk; simpa using this.symm
  rcases hI.next hbr 0 with ⟨hperm,hrun⟩ | ⟨e,w',hem,he,hrun,hI2,hg2,hs2,hen⟩
  ·gi_wp2
   go_end0
   refine ⟨⟨_,rfl⟩,ss,?_,hJs⟩
   have h1:=hperm.map (·.key)
   rw [hpk,hkeys] at h1
   have h2:=h1.map dw
   rw [Aad hss,Aad (fun k hk=>by obtain ⟨p,hp,rfl⟩:=List.mem_map.1 hk; exact hl p hp)] at h2
   exact h2
  ·obtain ⟨k,hkM,hek⟩:=hkey e hem
   have hJ2 : J ss w':=hJ ss wr w' (some W.heap.size) hJs hg2 (fun r e=>by cases e; exact ⟨Nat.le_refl _,_,hI.it,rfl⟩)
   have hsn:=Afu he
   have hplt : pre.length < es.size:=by omega
   have hJ3 : J ss (w'.alloc (.cells (wq k) 41)):=hJ ss w' _ none hJ2 (World.grownBy_alloc w' _ none) (fun r e=>by cases e)
   have hI3 : IterAt (w'.alloc (.cells (wq k) 41)) b W.heap.size es clock (pre ++ [e]):=hI2.walks (Below.heap_alloc _ _ _ (Array.getElem?_eq_some_iff.1 hI2.map).1) (Below.heap_alloc _ _ _ (Array.getElem?_eq_some_iff.1 hI2.it).1)
   obtain ⟨fn,tmps,assign,body,hy,hR⟩:=hY ss k _ hJ3 (by rw [hpl,<- hlen]; simpa using hplt)
   have hek2 : e.key = .agg (wq k):=hek
   rw [hek2] at hrun hen
   unfold wd at hy
   clear hs2
   gi_wp2
   refine hR.mono ?_
   rintro e' W3 ⟨rfl,hJ4,hk3⟩
   gi_wp2
   have hI4 : IterAt W3 b W.heap.size es clock (pre ++ [e]):=⟨hk3.same _ _ hI3.map rfl,hI3.st,hk3.same _ _ hI3.it rfl,hI3.sub,hI3.nd⟩
   go_roundw
   case rel =>
    refine ⟨pre ++ [e],ss ++ [k],hI4,?_,fun j hj=>?_,?_,hJ4⟩
    ·rw [List.map_append,List.map_append,hpk]; simp [hek]
    ·rcases List.mem_append.1 hj with hj | hj
     ·exact hss j hj
     ·rw [List.mem_singleton.1 hj]; exact hkM
    ·rw [List.length_append,List.length_singleton]; omega
   case measure=>rw [hI4.left,hI.left]; exact hsn
theorem Wz (n : Nat) (hn : 1 <= n) (Bm b : Nat) (l : List (Nat × Value)) (hl : ∀ p ∈ l,p.1 < M) (w : World) (hBm : Bm < w.heap.size) (hm : w.cell? ⟨Bm,0,none⟩ = some (.map (some b))) (hM : MapB wd w b l) :
  SeqGives Fence.wide n TryQ.prog 204 #[pq Bm 0] wd (fun ss=>ss.Perm (l.map (·.1))) l.length w:=fun lp J W hW hJ hY h0 =>
 Aon n hn lp Bm b l hl J hY W hJ ((hW.cell (p:=⟨Bm,0,none⟩) hBm).trans hm) (hM.below hW) h0
theorem Aoo (n : Nat) (mb : Option Nat) (w : World) : CallsIn Fence.wide n TryQ.prog 162 #[.map mb] w fun e w'=>e = .returned (.func (.func 204) #[] #[pq w.heap.size 0]) /\ w' = w.alloc (.cells #[.map mb] 133):=by
 refine callsIn_of_wp TryQ.func162 rfl trivial ?_ rfl
 simp only [Tryz.ntmps162,List.size_toArray,List.length_cons,List.length_nil,Nat.reduceAdd,Nat.reduceSub,Array.replicate_succ,Array.replicate_zero,List.push_toArray,List.append_toArray,List.nil_append,List.cons_append]
 gi_wp2
 go_ret
 exact ⟨rfl,rfl⟩
def wc (k : Nat) : List Value:=[.int .u64 (lim k 0),.int .u64 (lim k 1),.int .u64 (lim k 2),.int .u64 (lim k 3)]
def En : List Nat -> List Value
 | []=>[]
 | k :: l=>wc k ++ En l
theorem Mf : ∀ (a b : List Nat),En (a ++ b) = En a ++ En b
 | [],_=>rfl
 | k :: a,b=>by rw [List.cons_append,En,En,Mf a b,List.append_assoc]
theorem Aou : ∃ i z,TryQ.prog.info? 41 = some i /\ i.zero = some z /\ i.size = 4 /\ i.bytes = 32 /\ z.cells.size = 4:=by
 have e8 : (TryQ.prog.info? 41).map (·.size) = some 4:=by kernel_rfl
 have e64 : (TryQ.prog.info? 41).map (·.bytes) = some 32:=by kernel_rfl
 have ez : ((TryQ.prog.info? 41).bind (·.zero)).map (·.cells.size) = some 4:=by kernel_rfl
 obtain ⟨i,hi⟩ : ∃ i,TryQ.prog.info? 41 = some i:=by
  cases h : TryQ.prog.info? 41 with
  | none=>rw [h] at e8; cases e8
  | some i=>exact ⟨i,rfl⟩
 rw [hi] at e8 e64 ez
 replace ez : i.zero.map (·.cells.size) = some 4:=ez
 cases hz : i.zero with
 | none=>rw [hz] at ez; cases ez
 | some z=>rw [hz] at ez; exact ⟨i,z,hi,hz,Option.some.inj e8,Option.some.inj e64,Option.some.inj ez⟩
theorem u142 : TryQ.prog.underlying 201 = some (.slice 41):=(Ab 201).trans Tryz.underlying201
def apAssign : Code:=.region 2 #[{ dst:=some 5,op:=.alloc 41,type:=0,pos:= "iter.go:51",after:=#[],guard:=none },{ dst:=none,op:=.store 41 (.tmp 5) (.tmp 7),type:=0,pos:= "iter.go:51",after:=#[{ on:=0,ground:=.data },{ on:=0,ground:=.phase }],guard:=none }] false
def apBody : Code:=.block 1 (.region 3 #[{ dst:=some 8,op:=.load 201 (.tmp 2),type:=201,pos:= "iter.go:52",after:=#[],guard:=none },{ dst:=some 9,op:=.load 41 (.tmp 5),type:=41,pos:= "iter.go:52",after:=#[],guard:=none },{ dst:=some 10,op:=.buildSlice 201 1 #[(0,.tmp 9)],type:=201,pos:= "iter.go:52",after:=#[{ on:=1,ground:=.data }],guard:=none },{ dst:=some 11,op:=.call { callee:=.builtin .append,args:=#[.tmp 8,.tmp 10],argTypes:=#[201,201] },type:=201,pos:= "iter.go:52",after:=#[{ on:=0,ground:=.data },{ on:=2,ground:=.data }],guard:=none },{ dst:=none,op:=.store 201 (.tmp 2) (.tmp 11),type:=0,pos:= "iter.go:52",after:=#[{ on:=3,ground:=.data },{ on:=3,ground:=.chain },{ on:=0,ground:=.phase },{ on:=1,ground:=.phase },{ on:=2,ground:=.phase },{ on:=3,ground:=.phase }],guard:=none }] false)
def apRec (fn : FuncId) (sv : Value) (Bs D : Nat) (st : LoopState) (pend : Option Code) : Loop :=
 { state:=st,pending:=pend,fn,tmps:=#[.slice none 0 0,sv,pq Bs 0,ud,.slice none 0 0,ud,sv,ud,ud,ud,ud,ud,ud],params:=#[7],assign:=apAssign,body:=apBody,defers:=D }
structure ApAt (w0 : World) (fn : FuncId) (sv : Value) (Bs l D : Nat) (ss : List Nat) (W : World) : Prop where
 box : ∃ v,W.heap[Bs]? = ob #[v] 201 /\ W.ownsRow w0.heap.size 41 4 v ss.length (En ss)
 L : W.heap[l]? = some (.loop (apRec fn sv Bs D .ready none))
 K : W.heap[D]? = some (.deferred (some []))
 below : Below w0.heap.size w0 W
theorem ap_abides (w0 : World) (fn : FuncId) (sv : Value) (Bs l D B : Nat) (hB : w0.heap.size <= B) : AbidesFrom B (ApAt w0 fn sv Bs l D):=fun s W W' row h hg hrow=>by
 have hrow' : ∀ r,row = some r -> ∃ o : Obj,W.heap[r]? = some o /\ o.isWalk = true:=fun r e=>(hrow r e).2
 obtain ⟨v,hv,hr⟩:=h.box
 exact ⟨⟨v,(grownBy_keeps hg hrow' hv rfl).trans hv,ownsRow_abides_a hr hg hrow'⟩,(grownBy_keeps hg hrow' h.L rfl).trans h.L,(grownBy_keeps hg hrow' h.K rfl).trans h.K,
  h.below.grown hg h.below.size (fun k e=>Nat.le_trans hB (hrow k e).1)⟩
theorem apYield (m : Nat) (w0 : World) (fn : FuncId) (sv : Value) (Bs l D : Nat) (hBl : Bs ≠ l) (hDl : D ≠ l) (hDB : D ≠ Bs) (h0B : w0.heap.size <= Bs) (h0l : w0.heap.size <= l)
  (N : Nat) (hN : N < 1000000000) (ss : List Nat) (x : Nat) (W : World) (h : ApAt w0 fn sv Bs l D ss W) (hlen : ss.length < N) :
  YieldAt Fence.wide m TryQ.prog l #[wd x] W fun e W'=>e = .returned (.bool true) /\ ApAt w0 fn sv Bs l D (ss ++ [x]) W' /\ KeepsWalks W W':=by
 obtain ⟨i0,z0,hi,hz0,hz1,hz2,hz3⟩:=Aou
 obtain ⟨v,hv,hrow⟩:=h.box
 refine ⟨fn,#[.slice none 0 0,sv,pq Bs 0,ud,.slice none 0 0,ud,sv,wd x,ud,ud,ud,ud,ud],apAssign,apBody,by simpa [apRec] using run_yield (P:=TryQ.prog) (args:=#[wd x]) h.L rfl,roundIn_of_wpIn trivial ?_⟩
 obtain ⟨W1,hW1⟩ : ∃ W1,W.alloc (.cells (wc x).toArray 41) = W1:=⟨_,rfl⟩
 have hx1 : CellsAt W1 W.heap.size 0 (wc x):=by rw [<- hW1]; exact Et W (wc x) 41
 have hk1 : KeepsWalks W W1:=by rw [<- hW1]; exact KeepsWalks.alloc _ _
 have hb1 : Below W.heap.size W W1:=by rw [<- hW1]; exact ba
 have hL1 : W1.heap[l]? = some (.loop (apRec fn sv Bs D .ready none)):=(hb1.block l (Array.getElem?_eq_some_iff.1 h.L).1).trans h.L
 have hv1 : W1.heap[Bs]? = ob #[v] 201:=(hb1.block Bs (Array.getElem?_eq_some_iff.1 hv).1).trans hv
 have hK1 : W1.heap[D]? = some (.deferred (some [])):=(hb1.block D (Array.getElem?_eq_some_iff.1 h.K).1).trans h.K
 have hr1:=own_below hrow hb1
 have hB1 : Below w0.heap.size w0 W1:=h.below.trans (hb1.mono h.below.size)
 have hxo : ∃ cur,W1.heap[W.heap.size]? = ob cur 41:=by rw [<- hW1]; exact ⟨_,heap_alloc_new W _⟩
 have hl : l < W1.heap.size:=(Array.getElem?_eq_some_iff.1 hL1).1
 have hbr:=run_beginRound (P:=TryQ.prog) hL1 rfl
 obtain ⟨W2,hW2⟩ : ∃ W2,W1.putObj l (.loop { apRec fn sv Bs D .ready none with state:=.busy }) = W2:=⟨_,rfl⟩
 rw [hW2] at hbr
 have hg2 : W1.grownBy W2 (some l):=by rw [<- hW2]; exact grownBy_putObj_a _ _ _
 have hk2 : KeepsWalks W1 W2:=by rw [<- hW2]; exact KeepsWalks.putObj _ hL1 rfl
 have hv2 : W2.heap[Bs]? = ob #[v] 201:=by rw [<- hW2]; exact (World.putObj_heap_other hBl).trans hv1
 have hK2 : W2.heap[D]? = some (.deferred (some [])):=by rw [<- hW2]; exact (World.putObj_heap_other hDl).trans hK1
 have hL2 : W2.heap[l]? = some (.loop { apRec fn sv Bs D .ready none with state:=.busy }):=by rw [<- hW2]; exact World.putObj_heap_same hl
 have hxl : W.heap.size ≠ l:=by have:=(Array.getElem?_eq_some_iff.1 h.L).1; omega
 have hx2 : CellsAt W2 W.heap.size 0 (wc x):=fun j u hj=>(hg2.cell_far ⟨W.heap.size,0 + j,none⟩ (by obtain ⟨c,hc⟩:=hxo; exact (Array.getElem?_eq_some_iff.1 hc).1) (fun e=>hxl (by cases e; rfl))).trans (hx1 j u hj)
 have hrow2 : W2.ownsRow w0.heap.size 41 4 v ss.length (En ss):=hr1.kept hg2 (ownsRow_ne_a hr1 hL1 (fun cur e=>by cases e))
 have hb2 : Below w0.heap.size w0 W2:=hB1.grown hg2 hB1.size (fun k e=>by cases e; exact h0l)
 obtain ⟨hc2,hf2⟩:=cell_of_box_a hv2
 have hBlt : Bs < W2.heap.size:=(Array.getElem?_eq_some_iff.1 hv2).1
 have hl2 : l < W2.heap.size:=(Array.getElem?_eq_some_iff.1 hL2).1
 have hDlt : D < W2.heap.size:=(Array.getElem?_eq_some_iff.1 hK2).1
 clear hW2
 unfold apAssign
 unfold wd
 gi_wp2_with gi_round_op_a
 change ∃ w₂,Sem.run TryQ.prog (Instr.beginRound l) (W.alloc (.cells (wc x).toArray 41)) = Result.ok () w₂ /\ _
 rw [hW1]
 refine ⟨W2,hbr,?_⟩
 generalize W.heap.size = xb at hx2 ⊢
 have x0:=hx2 0 _ rfl
 have x1:=hx2 1 _ rfl
 have x2:=hx2 2 _ rfl
 have x3:=hx2 3 _ rfl
 simp only [Nat.zero_add] at x0 x1 x2 x3
 have hown3 : (W2.alloc (.cells (wc x).toArray 41)).ownsRow w0.heap.size 41 4 v ss.length (En ss):=hrow2.alloc _
 have hn3:=Et W2 (wc x) 41
 have ne_of : ∀ {j : Nat} {o : Obj},W2.heap[j]? = some o -> (∀ cur,o ≠ .cells cur 41 (0,0)) -> some j ≠ v.ownBlock:=fun hj hno=>by
  rcases ownsRow_ne_a hrow2 hj hno with e | e
  ·rw [e]; simp
  ·exact fun e'=>e e'.symm
 unfold apBody
 gi_wp2_with (first
  | (gi_at_builtin; refine wpListIn_append_own _ rfl _ _ 201 rfl w0.heap.size 41 i0 z0 4 32 u142 hi hz0 hz1 hz2 hz3 (by decide) v ss.length (En ss) rfl hown3 ⟨W2.heap.size,0,none⟩ 1 1 (wc x) rfl rfl (fun j v hj=>by rw [Addr.add_mid]; exact hn3 j v hj) (fun u hu=>by simp only [wc,List.mem_cons,List.not_mem_nil,or_false] at hu; rcases hu with rfl | rfl | rfl | rfl <;> rfl) (by simp [maxLen]; omega) (by omega) (by have:=hb2.size; simp; omega) ?_; intro v' w3 hown' hg3 hnil3
     have hv3 : w3.heap[Bs]? = ob #[v] 201:=(hg3.block Bs (by simp; omega) (ne_of hv2 (fun cur e=>by cases e))).trans ((Below.heap_alloc _ _ Bs hBlt).trans hv2)
     obtain ⟨hc3,hf3⟩:=cell_of_box_a hv3
     obtain ⟨g',cap',cur',rfl,hbase',hgb',hr1,hr2,hr3,hr4⟩ : ∃ g' cap' cur',v' = .slice (some ⟨g',0,none⟩) (ss.length + 1) cap' /\ w0.heap.size <= g' /\ w3.heap[g']? = ob cur' 41 /\ ss.length + 1 <= cap' /\ cap' <= maxLen /\ cur'.size = cap' * 4 /\ cur'.toList.take ((ss.length + 1) * 4) = En ss ++ wc x:=by
      rcases hown'.2 with ⟨_,h0⟩ | h'
      ·exact absurd h0 (by omega)
      ·exact h'
     go_frame)
  | gi_round_op_a)
 have hg3' : (W2.alloc (.cells (wc x).toArray 41)).grownBy w3 v.ownBlock:=hg3
 have hL3 : w3.heap[l]? = some (.loop { apRec fn sv Bs D .ready none with state:=.busy }):=(hg3'.block l (by simp; omega) (ne_of hL2 (fun cur e=>by cases e))).trans ((Below.heap_alloc _ _ l hl2).trans hL2)
 have hK3 : w3.heap[D]? = some (.deferred (some [])):=(hg3'.block D (by simp; omega) (ne_of hK2 (fun cur e=>by cases e))).trans ((Below.heap_alloc _ _ D hDlt).trans hK2)
 obtain ⟨w4,hw4⟩ : ∃ w4,w3.setCell ⟨Bs,0,none⟩ (.slice (some ⟨g',0,none⟩) (ss.length + 1) cap') = w4:=⟨_,rfl⟩
 rw [hw4]
 have hg4 : w3.grownBy w4 (some Bs):=by rw [<- hw4]; exact grownBy_setCell0_a _ _ _
 have hv4 : w4.heap[Bs]? = ob #[.slice (some ⟨g',0,none⟩) (ss.length + 1) cap'] 201:=by rw [<- hw4]; exact heap_setCell_box_a _ hv3
 have hL4 : w4.heap[l]? = some (.loop { apRec fn sv Bs D .ready none with state:=.busy }):=(hg4.block l (Array.getElem?_eq_some_iff.1 hL3).1 (fun e=>hBl (by cases e; rfl))).trans hL3
 have hK4 : w4.heap[D]? = some (.deferred (some [])):=(hg4.block D (Array.getElem?_eq_some_iff.1 hK3).1 (fun e=>hDB (by cases e; rfl))).trans hK3
 have hrow4:=hown'.kept hg4 (ownsRow_ne_a hown' hv3 (fun cur e=>by cases e))
 have hl4 : l < w4.heap.size:=(Array.getElem?_eq_some_iff.1 hL4).1
 have hb3 : Below w0.heap.size w0 w3:=(hb2.alloc hb2.size _).grown hg3' (by have:=hb2.size; simp; omega) (fun k e=>(hrow2.lt k e).1)
 have hb4 : Below w0.heap.size w0 w4:=hb3.grown hg4 hb3.size (fun k e=>by cases e; exact h0B)
 have hk4 : KeepsWalks W w4:=(((hk1.trans hk2).trans (KeepsWalks.alloc _ _)).trans (KeepsWalks.of_grownBy hg3' (ownsRow_not_walk_a (hrow2.alloc _)))).trans (by rw [<- hw4]; exact KeepsWalks.setCell _ _ _)
 clear hw4
 refine ⟨_,_,run_endRound none hL4,rfl,⟨⟨_,(World.putObj_heap_other hBl).trans hv4,?_⟩,World.putObj_heap_same hl4,(World.putObj_heap_other hDl).trans hK4,hb4.grown (grownBy_putObj_a _ _ _) hb4.size (fun k e=>by cases e; exact h0l)⟩,hk4.trans (KeepsWalks.putObj _ hL4 rfl)⟩
 have:=hrow4.kept (grownBy_putObj_a w4 l (.loop { { apRec fn sv Bs D .ready none with state:=.busy } with state:=if (none : Option Code).isNone then .ready else .done,pending:=none })) (ownsRow_ne_a hrow4 hL4 (fun cur e=>by cases e))
 have hfl : En (ss ++ [x]) = En ss ++ wc x:=by rw [Mf,En,En,List.append_nil]
 rw [List.length_append,List.length_singleton,hfl]
 exact this
theorem Agj (n : Nat) (hn : 2 <= n) (g : Nat) (lb : Array Value) (eg : ∀ args w,(callFunc g args).run TryQ.prog w = .ok (.enter g args) w)
  (S : List Nat -> Prop) (N : Nat) (hN : N < 1000000000) (w : World) (hseq : SeqGives Fence.wide (n - 1) TryQ.prog g lb wd S N w) :
  CallsIn Fence.wide n TryQ.prog 234 #[.slice none 0 0,.func (.func g) #[] lb] w fun e w'=>∃ (v : Value) (ss : List Nat),e = .returned v /\ S ss /\ w'.ownsRow w.heap.size 41 4 v ss.length (En ss) /\ Below w.heap.size w w':=by
 have h1 : 1 <= n:=by omega
 refine callsIn_of_wp_marks TryQ.func234 rfl trivial ?_ rfl
 simp only [Tryz.ntmps234,List.size_toArray,List.length_cons,List.length_nil,Nat.reduceAdd,Nat.reduceSub,Array.replicate_succ,Array.replicate_zero,List.push_toArray,List.append_toArray,List.nil_append,List.cons_append]
 gi_wp2
 refine wpIn_rangeFunc ?_
 intro fn hfn
 obtain ⟨W0,hW0⟩ : ∃ W0,w.alloc (.cells #[.slice none 0 0] 201) = W0:=⟨_,rfl⟩
 have hs0 : W0.heap.size = w.heap.size + 1:=by rw [<- hW0]; simp
 have hv0 : W0.heap[w.heap.size]? = ob #[.slice none 0 0] 201:=by rw [<- hW0]; exact World.alloc_heap_new w _
 have hb0 : Below w.heap.size w W0:=by rw [<- hW0]; exact (Below.refl _ w).alloc (Nat.le_refl _) _
 rw [hW0]
 obtain ⟨W1,hW1⟩ : ∃ W1,(W0.alloc (.deferred (some []))).alloc (.loop (apRec fn (.func (.func g) #[] lb) w.heap.size W0.heap.size .ready none)) = W1:=⟨_,rfl⟩
 have hold : ∀ k,k < W0.heap.size -> W1.heap[k]? = W0.heap[k]?:=fun k hk=>by
  rw [<- hW1]; exact (Below.heap_alloc _ _ k (by simp; omega)).trans (Below.heap_alloc _ _ k hk)
 have hb1 : Below w.heap.size w W1:=by rw [<- hW1]; exact (hb0.alloc hb0.size _).alloc (by have:=hb0.size; simp; omega) _
 have hs1 : W1.heap.size = W0.heap.size + 2:=by rw [<- hW1]; simp
 have hM : ApAt w fn (.func (.func g) #[] lb) w.heap.size (W0.heap.size + 1) W0.heap.size [] W1 :=
  ⟨⟨_,(hold w.heap.size (by omega)).trans hv0,⟨rfl,.inl ⟨rfl,rfl⟩⟩⟩,
   by rw [<- hW1]; have:=World.alloc_heap_new (W0.alloc (.deferred (some []))) (.loop (apRec fn (.func (.func g) #[] lb) w.heap.size W0.heap.size .ready none)); rwa [World.size_alloc] at this,
   by rw [<- hW1]; exact (Below.heap_alloc _ _ _ (by simp)).trans (World.alloc_heap_new W0 _),hb1⟩
 refine ⟨W0.heap.size + 1,[{ target:=.collected W0.heap.size,args:=#[] }],W1,{ target:=.fn (.func g) lb,args:=#[.func (.yield (W0.heap.size + 1)) #[] #[]] },W1,g,
  #[.func (.yield (W0.heap.size + 1)) #[] #[]] ++ lb,W1,?_,?_,?_,?_,fun _=>h1,?_⟩
 ·rw [<- hW1]; exact run_enterLoop_outer _ _ _ _ _
 ·simp [resolve,go_sem]
 ·intro f' hf'; trivial
 ·simp [invoke,go_sem,eg]
 ·refine (hseq (W0.heap.size + 1) (ApAt w fn (.func (.func g) #[] lb) w.heap.size (W0.heap.size + 1) W0.heap.size) W1 hb1 (ap_abides _ _ _ _ _ _ _ hb1.size)
   (fun pre x W hJ hl=>apYield (n - 1 - 1) w fn _ w.heap.size (W0.heap.size + 1) W0.heap.size (by omega) (by omega) (by omega) (Nat.le_refl _) (by omega) N hN pre x W hJ hl) hM).mono ?_
  rintro e W2 ⟨⟨v0,rfl⟩,ss,hS,h2⟩
  obtain ⟨v,hv,hrow⟩:=h2.box
  have hend:=run_endLoop (P:=TryQ.prog) h2.L (by simp [apRec])
  obtain ⟨W3,hW3⟩ : ∃ W3,W2.putObj (W0.heap.size + 1) (.loop { apRec fn (.func (.func g) #[] lb) w.heap.size W0.heap.size .ready none with state:=.exhausted }) = W3:=⟨_,rfl⟩
  rw [hW3] at hend
  have hg3 : W2.grownBy W3 (some (W0.heap.size + 1)):=by rw [<- hW3]; exact grownBy_putObj_a _ _ _
  have hv3 : W3.heap[w.heap.size]? = ob #[v] 201:=by rw [<- hW3]; exact (World.putObj_heap_other (by omega)).trans hv
  have hK3 : W3.heap[W0.heap.size]? = some (.deferred (some [])):=by rw [<- hW3]; exact (World.putObj_heap_other (by omega)).trans h2.K
  have hrow3:=hrow.kept hg3 (ownsRow_ne_a hrow h2.L (fun cur e=>by cases e))
  have hb3 : Below w.heap.size w W3:=h2.below.grown hg3 h2.below.size (fun k e=>by cases e; omega)
  obtain ⟨hc3,hf3⟩:=cell_of_box_a hv3
  clear hW3
  refine ⟨none,W3,hend,?_⟩
  gi_wp2
  rw [<- hs0]
  refine ⟨by simp,.inl ⟨_,_,rfl,run_takeDeferred hK3,?_⟩⟩
  exact ⟨_,results_tmp rfl _ _ _,v,ss,rfl,hS,hrow3.kept (grownBy_putObj_a _ _ _) (ownsRow_ne_a hrow3 hK3 (fun cur e=>by cases e)),hb3.grown (grownBy_putObj_a _ _ _) hb3.size (fun k e=>by cases e; omega)⟩
theorem Agb (n : Nat) (hn : 3 <= n) (g : Nat) (lb : Array Value) (eg : ∀ args w,(callFunc g args).run TryQ.prog w = .ok (.enter g args) w)
  (S : List Nat -> Prop) (N : Nat) (hN : N < 1000000000) (w : World) (hseq : SeqGives Fence.wide (n - 1 - 1) TryQ.prog g lb wd S N w) :
  CallsIn Fence.wide n TryQ.prog 202 #[.func (.func g) #[] lb] w fun e w'=>∃ (v : Value) (ss : List Nat),e = .returned v /\ S ss /\ w'.ownsRow w.heap.size 41 4 v ss.length (En ss) /\ Below w.heap.size w w':=by
 have h1 : 1 <= n:=by omega
 have hfn : Fence.wide.fn 234:=trivial
 refine callsIn_of_wp TryQ.func202 rfl trivial ?_ rfl
 simp only [Tryz.ntmps202,List.size_toArray,List.length_cons,List.length_nil,Nat.reduceAdd,Nat.reduceSub,Array.replicate_succ,Array.replicate_zero,List.push_toArray,List.append_toArray,List.nil_append,List.cons_append]
 gi_wp2_with (gi_at_call 234; refine (Agj (n - 1) (by omega) g lb eg S N hN _ hseq).mono ?_; rintro e w' ⟨v,ss,rfl,hS,hrow,hb⟩)
 go_ret
 exact ⟨v,ss,rfl,hS,hrow,hb⟩
end Go.Mark
namespace Go.Mark
open Go.RowKit Go.Proofs Go.Sort Go.Shelf
def Gr (w w' : World) : Prop:=∃ q os,w' = grow (w.drewN q) os
theorem Gr.refl (w : World) : Gr w w:=⟨0,#[],by simp [World.drewN]⟩
theorem Gr.alloc {w w' : World} (h : Gr w w') (o : Obj) : Gr w (w'.alloc o):=by
 obtain ⟨q,os,rfl⟩:=h
 exact ⟨q,os ++ #[o],by rw [alloc_eq_grow,grow_grow]⟩
theorem Gr.drewN {w w' : World} (h : Gr w w') (n : Nat) : Gr w (w'.drewN n):=by
 obtain ⟨q,os,rfl⟩:=h
 exact ⟨q + n,os,by simp [World.drewN,grow,Nat.add_assoc]⟩
theorem Aoz (a0 a1 a2 a3 b0 b1 b2 b3 : Int) (h : (a3 != b3) = true) (w : World) :
  Calls TryQ.prog 163 #[.agg #[.int .u64 a0,.int .u64 a1,.int .u64 a2,.int .u64 a3],.agg #[.int .u64 b0,.int .u64 b1,.int .u64 b2,.int .u64 b3]] w fun e w'=>e = .returned (.int .i64 (De a3 b3)) /\ Gr w w':=by
 go_enter TryQ.func163,Tryz.ntmps163
 go_wp2
 refine wp_loop_rounds 5 ?_
 rw [rounds_succ]
 go_wp2
 go_quiet (fail)
 go_wp2
 go_region_with (go_at_call 205; refine (Og a3 b3 _).mono ?_; rintro e w' ⟨rfl,hw⟩; rw [hw])
 all_goals
  go_wp2
  go_ret
  exact ⟨rfl,by first | exact Gr.drewN (Gr.alloc (Gr.alloc (Gr.refl _) _) _) _ | exact Gr.alloc (Gr.alloc (Gr.refl _) _) _ | (repeat (first | exact Gr.refl _ | apply Gr.drewN | apply Gr.drew | apply Gr.alloc))⟩
theorem Ao0 (a0 a1 a2 b0 b1 b2 x3 : Int) (h : (a2 != b2) = true) (w : World) :
  Calls TryQ.prog 163 #[.agg #[.int .u64 a0,.int .u64 a1,.int .u64 a2,.int .u64 x3],.agg #[.int .u64 b0,.int .u64 b1,.int .u64 b2,.int .u64 x3]] w fun e w'=>e = .returned (.int .i64 (De a2 b2)) /\ Gr w w':=by
 go_enter TryQ.func163,Tryz.ntmps163
 go_wp2
 refine wp_loop_rounds 5 ?_
 rw [rounds_succ]
 go_wp2
 go_quiet (fail)
 go_wp2
 rw [rounds_succ]
 go_wp2
 go_quiet (fail)
 go_wp2
 go_region_with (go_at_call 205; refine (Og a2 b2 _).mono ?_; rintro e w' ⟨rfl,hw⟩; rw [hw])
 all_goals
  go_wp2
  go_ret
  exact ⟨rfl,by first | exact Gr.drewN (Gr.alloc (Gr.alloc (Gr.refl _) _) _) _ | exact Gr.alloc (Gr.alloc (Gr.refl _) _) _ | (repeat (first | exact Gr.refl _ | apply Gr.drewN | apply Gr.drew | apply Gr.alloc))⟩
theorem Ao1 (a0 a1 b0 b1 x2 x3 : Int) (h : (a1 != b1) = true) (w : World) :
  Calls TryQ.prog 163 #[.agg #[.int .u64 a0,.int .u64 a1,.int .u64 x2,.int .u64 x3],.agg #[.int .u64 b0,.int .u64 b1,.int .u64 x2,.int .u64 x3]] w fun e w'=>e = .returned (.int .i64 (De a1 b1)) /\ Gr w w':=by
 go_enter TryQ.func163,Tryz.ntmps163
 go_wp2
 refine wp_loop_rounds 5 ?_
 rw [rounds_succ]
 go_wp2
 go_quiet (fail)
 go_wp2
 rw [rounds_succ]
 go_wp2
 go_quiet (fail)
 go_wp2
 rw [rounds_succ]
 go_wp2
 go_quiet (fail)
 go_wp2
 go_region_with (go_at_call 205; refine (Og a1 b1 _).mono ?_; rintro e w' ⟨rfl,hw⟩; rw [hw])
 all_goals
  go_wp2
  go_ret
  exact ⟨rfl,by first | exact Gr.drewN (Gr.alloc (Gr.alloc (Gr.refl _) _) _) _ | exact Gr.alloc (Gr.alloc (Gr.refl _) _) _ | (repeat (first | exact Gr.refl _ | apply Gr.drewN | apply Gr.drew | apply Gr.alloc))⟩
theorem Ao2 (a0 b0 x1 x2 x3 : Int) (h : (a0 != b0) = true) (w : World) :
  Calls TryQ.prog 163 #[.agg #[.int .u64 a0,.int .u64 x1,.int .u64 x2,.int .u64 x3],.agg #[.int .u64 b0,.int .u64 x1,.int .u64 x2,.int .u64 x3]] w fun e w'=>e = .returned (.int .i64 (De a0 b0)) /\ Gr w w':=by
 go_enter TryQ.func163,Tryz.ntmps163
 go_wp2
 refine wp_loop_rounds 5 ?_
 rw [rounds_succ]
 go_wp2
 go_quiet (fail)
 go_wp2
 rw [rounds_succ]
 go_wp2
 go_quiet (fail)
 go_wp2
 rw [rounds_succ]
 go_wp2
 go_quiet (fail)
 go_wp2
 rw [rounds_succ]
 go_wp2
 go_quiet (fail)
 go_wp2
 go_region_with (go_at_call 205; refine (Og a0 b0 _).mono ?_; rintro e w' ⟨rfl,hw⟩; rw [hw])
 all_goals
  go_wp2
  go_ret
  exact ⟨rfl,by first | exact Gr.drewN (Gr.alloc (Gr.alloc (Gr.refl _) _) _) _ | exact Gr.alloc (Gr.alloc (Gr.refl _) _) _ | (repeat (first | exact Gr.refl _ | apply Gr.drewN | apply Gr.drew | apply Gr.alloc))⟩
theorem Al7 (x0 x1 x2 x3 : Int) (w : World) :
  Calls TryQ.prog 163 #[.agg #[.int .u64 x0,.int .u64 x1,.int .u64 x2,.int .u64 x3],.agg #[.int .u64 x0,.int .u64 x1,.int .u64 x2,.int .u64 x3]] w fun e w'=>e = .returned (.int .i64 0) /\ Gr w w':=by
 go_enter TryQ.func163,Tryz.ntmps163
 go_wp2
 refine wp_loop_rounds 5 ?_
 rw [rounds_succ]
 go_wp2
 go_quiet (fail)
 go_wp2
 rw [rounds_succ]
 go_wp2
 go_quiet (fail)
 go_wp2
 rw [rounds_succ]
 go_wp2
 go_quiet (fail)
 go_wp2
 rw [rounds_succ]
 go_wp2
 go_quiet (fail)
 go_wp2
 rw [rounds_succ]
 go_wp2
 go_ret
 exact ⟨rfl,by first | exact Gr.drewN (Gr.alloc (Gr.alloc (Gr.refl _) _) _) _ | exact Gr.alloc (Gr.alloc (Gr.refl _) _) _ | (repeat (first | exact Gr.refl _ | apply Gr.drewN | apply Gr.drew | apply Gr.alloc))⟩
theorem Ajn (a b : Nat) (ha : a < M) (hb : b < M) (w : World) :
  Calls TryQ.prog 163 #[wd a,wd b] w fun e w'=>e = .returned (.int .i64 (De a b)) /\ Gr w w':=by
 have sa:=Fu a ha
 have sb:=Fu b hb
 have l0:=Bu a 0; have l1:=Bu a 1; have l2:=Bu a 2; have l3:=Bu a 3
 have u0:=Cn a 0; have u1:=Cn a 1; have u2:=Cn a 2; have u3:=Cn a 3
 have k0:=Bu b 0; have k1:=Bu b 1; have k2:=Bu b 2; have k3:=Bu b 3
 have v0:=Cn b 0; have v1:=Cn b 1; have v2:=Cn b 2; have v3:=Cn b 3
 unfold wd
 generalize lim a 0 = a0 at *; generalize lim a 1 = a1 at *; generalize lim a 2 = a2 at *; generalize lim a 3 = a3 at *
 generalize lim b 0 = b0 at *; generalize lim b 1 = b1 at *; generalize lim b 2 = b2 at *; generalize lim b 3 = b3 at *
 by_cases h3 : a3 = b3
 ·subst h3
  by_cases h2 : a2 = b2
  ·subst h2
   by_cases h1 : a1 = b1
   ·subst h1
    by_cases h0 : a0 = b0
    ·subst h0
     have e : De a b = 0:=by unfold De; rw [if_neg (by omega),if_neg (by omega)]
     rw [e]
     exact Al7 a0 a1 a2 a3 w
    ·have e : De a b = De a0 b0:=by unfold De; split <;> split <;> (try split) <;> (try split) <;> first | rfl | omega
     rw [e]
     exact Ao2 a0 b0 a1 a2 a3 (by simpa using h0) w
   ·have e : De a b = De a1 b1:=by unfold De; split <;> split <;> (try split) <;> (try split) <;> first | rfl | omega
    rw [e]
    exact Ao1 a0 a1 b0 b1 a2 a3 (by simpa using h1) w
  ·have e : De a b = De a2 b2:=by unfold De; split <;> split <;> (try split) <;> (try split) <;> first | rfl | omega
   rw [e]
   exact Ao0 a0 a1 a2 b0 b1 b2 a3 (by simpa using h2) w
 ·have e : De a b = De a3 b3:=by unfold De; split <;> split <;> (try split) <;> (try split) <;> first | rfl | omega
  rw [e]
  exact Aoz a0 a1 a2 a3 b0 b1 b2 b3 (by simpa using h3) w
end Go.Mark
