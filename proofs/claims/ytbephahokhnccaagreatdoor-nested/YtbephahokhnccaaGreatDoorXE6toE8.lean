import Derived.Shelf.SortM.Plain
import Derived.Shelf.SortM.SortNone
import Derived.Test.YtbephahokhnccaaGreatDoorXG5toG7
import Derived.Shelf.Strconv.Clone
set_option maxRecDepth 100000
set_option maxHeartbeats 2000000
namespace Go.Proofs
open Go.Mark Go.RowKit Go.Maps Go.Sort Go.Shelf
def TryQ.keysI_ren : Go.Shelf.Ren:=⟨fun | 7=>64 | 10=>104 | n=>n,fun | 23=>124 | 26=>3 | 3=>129 | 28=>140 | 0=>0 | 27=>139 | 33=>160 | 4=>4 | n=>n,fun | n=>n⟩
theorem TryQ.keysI : Go.Proofs.SlLaysZI.n7 TryQ.prog TryQ.keysI_ren where
 mixed:=by kernel_rfl
 f7:=⟨ "maps.Keys[map[int]*purser/ledger.account,int,*purser/ledger.account]",by decide,TryQ.func64.trans (congrArg some (by kernel_rfl))⟩
 f10:=⟨ "maps.Keys[map[int]*purser/ledger.account,int,*purser/ledger.account]$1",by decide,TryQ.func104.trans (congrArg some (by kernel_rfl))⟩
 t0:=(Ab 0).trans Tryz.underlying0
 a0:=fun w=>(Ak 0 w).trans (Tryz.isAgg0 w)
 z0:=fun w=>(Ag 0 w).trans (Tryz.sizeOf0 w)
 v0:=fun w=>(Af 0 w).trans (Tryz.zeroValue0 w)
 t4:=(Ab 4).trans Tryz.underlying4
 a4:=fun w=>(Ak 4 w).trans (Tryz.isAgg4 w)
 z4:=fun w=>(Ag 4 w).trans (Tryz.sizeOf4 w)
 v4:=fun w=>(Af 4 w).trans (Tryz.zeroValue4 w)
 t23:=(Ab 124).trans Tryz.underlying124
 a23:=fun w=>(Ak 124 w).trans (Tryz.isAgg124 w)
 z23:=fun w=>(Ag 124 w).trans (Tryz.sizeOf124 w)
 v23:=fun w=>(Af 124 w).trans (Tryz.zeroValue124 w)
 t26:=(Ab 3).trans Tryz.underlying3
 a26:=fun w=>(Ak 3 w).trans (Tryz.isAgg3 w)
 z26:=fun w=>(Ag 3 w).trans (Tryz.sizeOf3 w)
 v26:=fun w=>(Af 3 w).trans (Tryz.zeroValue3 w)
 t27:=(Ab 139).trans Tryz.underlying139
 a27:=fun w=>(Ak 139 w).trans (Tryz.isAgg139 w)
 z27:=fun w=>(Ag 139 w).trans (Tryz.sizeOf139 w)
 v27:=fun w=>(Af 139 w).trans (Tryz.zeroValue139 w)
 t28:=(Ab 140).trans Tryz.underlying140
 a28:=fun w=>(Ak 140 w).trans (Tryz.isAgg140 w)
 z28:=fun w=>(Ag 140 w).trans (Tryz.sizeOf140 w)
 v28:=fun w=>(Af 140 w).trans (Tryz.zeroValue140 w)
 t33:=(Ab 160).trans Tryz.underlying160
 a33:=fun w=>(Ak 160 w).trans (Tryz.isAgg160 w)
 z33:=fun w=>(Ag 160 w).trans (Tryz.sizeOf160 w)
 v33:=fun w=>(Af 160 w).trans (Tryz.zeroValue160 w)
def TryQ.sortedI_ren : Go.Shelf.Ren:=⟨fun | 6=>63 | 8=>102 | 9=>103 | 11=>158 | 13=>160 | 12=>159 | 23=>200 | 24=>201 | 14=>191 | 15=>192 | 16=>193 | 17=>194 | 18=>195 | 19=>196 | 20=>197 | 21=>198 | 22=>199 | 25=>228 | 26=>229 | 27=>230 | 28=>231 | 29=>232 | 30=>233 | 31=>264 | n=>n,fun | 26=>3 | 28=>140 | 24=>137 | 0=>0 | 3=>3 | 37=>93 | 48=>187 | 50=>39 | 4=>4 | 40=>280 | 39=>279 | 45=>284 | 5=>5 | 9=>9 | 51=>308 | 55=>311 | 57=>339 | 58=>340 | 33=>160 | n=>n,fun | n=>n⟩
theorem TryQ.sortedI : Go.Proofs.SlLaysZI.n6 TryQ.prog TryQ.sortedI_ren where
 mixed:=by kernel_rfl
 f6:=⟨ "slices.Sorted[int]",by decide,TryQ.func63.trans (congrArg some (by kernel_rfl))⟩
 f8:=⟨ "slices.Collect[int]",by decide,TryQ.func102.trans (congrArg some (by kernel_rfl))⟩
 f11:=⟨ "slices.AppendSeq[[]int,int]",by decide,TryQ.func158.trans (congrArg some (by kernel_rfl))⟩
 t0:=(Ab 0).trans Tryz.underlying0
 a0:=fun w=>(Ak 0 w).trans (Tryz.isAgg0 w)
 z0:=fun w=>(Ag 0 w).trans (Tryz.sizeOf0 w)
 v0:=fun w=>(Af 0 w).trans (Tryz.zeroValue0 w)
 t24:=(Ab 137).trans Tryz.underlying137
 a24:=fun w=>(Ak 137 w).trans (Tryz.isAgg137 w)
 z24:=fun w=>(Ag 137 w).trans (Tryz.sizeOf137 w)
 v24:=fun w=>(Af 137 w).trans (Tryz.zeroValue137 w)
 t26:=(Ab 3).trans Tryz.underlying3
 a26:=fun w=>(Ak 3 w).trans (Tryz.isAgg3 w)
 z26:=fun w=>(Ag 3 w).trans (Tryz.sizeOf3 w)
 v26:=fun w=>(Af 3 w).trans (Tryz.zeroValue3 w)
 t28:=(Ab 140).trans Tryz.underlying140
 a28:=fun w=>(Ak 140 w).trans (Tryz.isAgg140 w)
 z28:=fun w=>(Ag 140 w).trans (Tryz.sizeOf140 w)
 v28:=fun w=>(Af 140 w).trans (Tryz.zeroValue140 w)
 i26:=by kernel_rfl
def TryQ.sortI_ren : Go.Shelf.Ren:=⟨fun | 5=>103 | 8=>160 | 7=>159 | 19=>200 | 20=>201 | 10=>191 | 11=>192 | 12=>193 | 13=>194 | 14=>195 | 15=>196 | 16=>197 | 17=>198 | 18=>199 | 30=>228 | 31=>229 | 32=>230 | 33=>231 | 34=>232 | 35=>233 | 40=>264 | n=>n,fun | 23=>137 | 25=>3 | 3=>3 | 32=>93 | 22=>137 | 0=>0 | 44=>187 | 46=>39 | 4=>4 | 36=>280 | 35=>279 | 41=>284 | 5=>5 | 9=>9 | 53=>308 | 57=>311 | 63=>339 | 64=>340 | n=>n,fun | n=>n⟩
theorem TryQ.sortI : Go.Proofs.SlLaysM.n5 TryQ.prog TryQ.sortI_ren where
 mixed:=by kernel_rfl
 f5:=⟨ "slices.Sort[[]int,int]",by decide,TryQ.func103.trans (congrArg some (by kernel_rfl))⟩
 f7:=⟨ "slices.pdqsortOrdered[int]",by decide,TryQ.func159.trans (congrArg some (by kernel_rfl))⟩
 f8:=TryQ.func160.trans (congrArg some (by kernel_rfl))
 f10:=⟨ "slices.insertionSortOrdered[int]",by decide,TryQ.func191.trans (congrArg some (by kernel_rfl))⟩
 f11:=⟨ "slices.heapSortOrdered[int]",by decide,TryQ.func192.trans (congrArg some (by kernel_rfl))⟩
 f12:=⟨ "slices.breakPatternsOrdered[int]",by decide,TryQ.func193.trans (congrArg some (by kernel_rfl))⟩
 f13:=⟨ "slices.choosePivotOrdered[int]",by decide,TryQ.func194.trans (congrArg some (by kernel_rfl))⟩
 f14:=⟨ "slices.reverseRangeOrdered[int]",by decide,TryQ.func195.trans (congrArg some (by kernel_rfl))⟩
 f15:=⟨ "slices.partialInsertionSortOrdered[int]",by decide,TryQ.func196.trans (congrArg some (by kernel_rfl))⟩
 f16:=⟨ "cmp.Less[int]",by decide,TryQ.func197.trans (congrArg some (by kernel_rfl))⟩
 f17:=⟨ "slices.partitionEqualOrdered[int]",by decide,TryQ.func198.trans (congrArg some (by kernel_rfl))⟩
 f18:=⟨ "slices.partitionOrdered[int]",by decide,TryQ.func199.trans (congrArg some (by kernel_rfl))⟩
 f19:=TryQ.func200.trans (congrArg some (by kernel_rfl))
 f20:=TryQ.func201.trans (congrArg some (by kernel_rfl))
 f30:=⟨ "slices.siftDownOrdered[int]",by decide,TryQ.func228.trans (congrArg some (by kernel_rfl))⟩
 f31:=TryQ.func229.trans (congrArg some (by kernel_rfl))
 f32:=TryQ.func230.trans (congrArg some (by kernel_rfl))
 f33:=⟨ "slices.medianAdjacentOrdered[int]",by decide,TryQ.func231.trans (congrArg some (by kernel_rfl))⟩
 f34:=⟨ "slices.medianOrdered[int]",by decide,TryQ.func232.trans (congrArg some (by kernel_rfl))⟩
 f35:=⟨ "cmp.isNaN[int]",by decide,TryQ.func233.trans (congrArg some (by kernel_rfl))⟩
 f40:=⟨ "slices.order2Ordered[int]",by decide,TryQ.func264.trans (congrArg some (by kernel_rfl))⟩
 t0:=(Ab 0).trans Tryz.underlying0
 a0:=fun w=>(Ak 0 w).trans (Tryz.isAgg0 w)
 z0:=fun w=>(Ag 0 w).trans (Tryz.sizeOf0 w)
 v0:=fun w=>(Af 0 w).trans (Tryz.zeroValue0 w)
 t3:=(Ab 3).trans Tryz.underlying3
 a3:=fun w=>(Ak 3 w).trans (Tryz.isAgg3 w)
 z3:=fun w=>(Ag 3 w).trans (Tryz.sizeOf3 w)
 v3:=fun w=>(Af 3 w).trans (Tryz.zeroValue3 w)
 t4:=(Ab 4).trans Tryz.underlying4
 a4:=fun w=>(Ak 4 w).trans (Tryz.isAgg4 w)
 z4:=fun w=>(Ag 4 w).trans (Tryz.sizeOf4 w)
 v4:=fun w=>(Af 4 w).trans (Tryz.zeroValue4 w)
 t5:=(Ab 5).trans Tryz.underlying5
 a5:=fun w=>(Ak 5 w).trans (Tryz.isAgg5 w)
 z5:=fun w=>(Ag 5 w).trans (Tryz.sizeOf5 w)
 v5:=fun w=>(Af 5 w).trans (Tryz.zeroValue5 w)
 t9:=(Ab 9).trans Tryz.underlying9
 a9:=fun w=>(Ak 9 w).trans (Tryz.isAgg9 w)
 z9:=fun w=>(Ag 9 w).trans (Tryz.sizeOf9 w)
 v9:=fun w=>(Af 9 w).trans (Tryz.zeroValue9 w)
 t22:=(Ab 137).trans Tryz.underlying137
 a22:=fun w=>(Ak 137 w).trans (Tryz.isAgg137 w)
 z22:=fun w=>(Ag 137 w).trans (Tryz.sizeOf137 w)
 v22:=fun w=>(Af 137 w).trans (Tryz.zeroValue137 w)
 t23:=(Ab 137).trans Tryz.underlying137
 a23:=fun w=>(Ak 137 w).trans (Tryz.isAgg137 w)
 z23:=fun w=>(Ag 137 w).trans (Tryz.sizeOf137 w)
 v23:=fun w=>(Af 137 w).trans (Tryz.zeroValue137 w)
 t25:=(Ab 3).trans Tryz.underlying3
 a25:=fun w=>(Ak 3 w).trans (Tryz.isAgg3 w)
 z25:=fun w=>(Ag 3 w).trans (Tryz.sizeOf3 w)
 v25:=fun w=>(Af 3 w).trans (Tryz.zeroValue3 w)
 t32:=(Ab 93).trans Tryz.underlying93
 a32:=fun w=>(Ak 93 w).trans (Tryz.isAgg93 w)
 z32:=fun w=>(Ag 93 w).trans (Tryz.sizeOf93 w)
 v32:=fun w=>(Af 93 w).trans (Tryz.zeroValue93 w)
 t35:=(Ab 279).trans Tryz.underlying279
 a35:=fun w=>(Ak 279 w).trans (Tryz.isAgg279 w)
 z35:=fun w=>(Ag 279 w).trans (Tryz.sizeOf279 w)
 v35:=fun w=>(Af 279 w).trans (Tryz.zeroValue279 w)
 t36:=(Ab 280).trans Tryz.underlying280
 a36:=fun w=>(Ak 280 w).trans (Tryz.isAgg280 w)
 z36:=fun w=>(Ag 280 w).trans (Tryz.sizeOf280 w)
 v36:=fun w=>(Af 280 w).trans (Tryz.zeroValue280 w)
 t41:=(Ab 284).trans Tryz.underlying284
 a41:=fun w=>(Ak 284 w).trans (Tryz.isAgg284 w)
 z41:=fun w=>(Ag 284 w).trans (Tryz.sizeOf284 w)
 v41:=fun w=>(Af 284 w).trans (Tryz.zeroValue284 w)
 t44:=(Ab 187).trans Tryz.underlying187
 a44:=fun w=>(Ak 187 w).trans (Tryz.isAgg187 w)
 z44:=fun w=>(Ag 187 w).trans (Tryz.sizeOf187 w)
 v44:=fun w=>(Af 187 w).trans (Tryz.zeroValue187 w)
 t46:=(Ab 39).trans Tryz.underlying39
 a46:=fun w=>(Ak 39 w).trans (Tryz.isAgg39 w)
 z46:=fun w=>(Ag 39 w).trans (Tryz.sizeOf39 w)
 v46:=fun w=>(Af 39 w).trans (Tryz.zeroValue39 w)
 t53:=(Ab 308).trans Tryz.underlying308
 a53:=fun w=>(Ak 308 w).trans (Tryz.isAgg308 w)
 z53:=fun w=>(Ag 308 w).trans (Tryz.sizeOf308 w)
 v53:=fun w=>(Af 308 w).trans (Tryz.zeroValue308 w)
 t57:=(Ab 311).trans Tryz.underlying311
 a57:=fun w=>(Ak 311 w).trans (Tryz.isAgg311 w)
 z57:=fun w=>(Ag 311 w).trans (Tryz.sizeOf311 w)
 v57:=fun w=>(Af 311 w).trans (Tryz.zeroValue311 w)
 t63:=(Ab 339).trans Tryz.underlying339
 a63:=fun w=>(Ak 339 w).trans (Tryz.isAgg339 w)
 z63:=fun w=>(Ag 339 w).trans (Tryz.sizeOf339 w)
 v63:=fun w=>(Af 339 w).trans (Tryz.zeroValue339 w)
 t64:=(Ab 340).trans Tryz.underlying340
 a64:=fun w=>(Ak 340 w).trans (Tryz.isAgg340 w)
 z64:=fun w=>(Ag 340 w).trans (Tryz.sizeOf340 w)
 v64:=fun w=>(Af 340 w).trans (Tryz.zeroValue340 w)
end Go.Proofs
namespace Go.Mark
open Go.RowKit Go.Proofs
theorem Lists.below {B : Nat} {W W' : World} {v : SV} {os : List (Bt × SV)} (h : Lists B W v os) (hb : Below W.heap.size W W') : Lists B W' v os:=⟨own_below h.own hb,fun p hp=>own_below (h.sl p hp) hb,h.far,h.apart⟩
end Go.Mark
namespace Go.Mark
open Go.RowKit Go.Proofs Go.Maps Go.Sort Go.Shelf
theorem u82 : TryQ.prog.underlying 124 = some (.map 3 129):=(Ab 124).trans Tryz.underlying124
theorem Aq7 {w : World} {ma : Nat} {l : List (Int × Value)} (h : MapB (fun x : Int=>Value.int .i64 x) w ma l) (hnd : (l.map (·.1)).Nodup) (hr : ∀ p ∈ l,-9223372036854775808 <= p.1 /\ p.1 <= 9223372036854775807) (hn : l.length <= maxLen) :
  ∃ D0 : DataW Unit,w.ownsMap TryQ.prog 3 (fun _=>some (.nil,[])) ma l.length D0 /\ (Go.intKeys D0).Perm (l.map (·.1)) /\ Maps.size D0 = l.length:=by
 obtain ⟨es,clock,hb,hR,hS⟩:=h
 have hlen : es.toList.length = l.length:=by have:=congrArg List.length hR; simpa using this
 have hkeys : es.toList.map (·.key) = (l.map (·.1)).map (fun x : Int=>Value.int .i64 x):=by
  have:=congrArg (List.map Prod.fst) hR
  rw [List.map_map,List.map_map] at this
  rw [List.map_map]
  exact this
 have hkey : ∀ e ∈ es.toList,∃ x,e.key = .int .i64 x /\ -9223372036854775808 <= x /\ x <= 9223372036854775807:=fun e he=>by
  have : e.key ∈ es.toList.map (·.key):=List.mem_map_of_mem he
  rw [hkeys] at this
  obtain ⟨x,hx,e1⟩:=List.mem_map.1 this
  obtain ⟨p,hp,rfl⟩:=List.mem_map.1 hx
  exact ⟨_,e1.symm,hr p hp⟩
 have hmin : IntKind.i64.min = -9223372036854775808:=by decide
 have hmax : IntKind.i64.max = 9223372036854775807:=by decide
 have hrd : ∀ e ∈ es.toList,∀ x,e.key = .int .i64 x -> Go.WideElems.rd TryQ.prog 3 (fun _=>some (DataW.nil,[])) e = some (.int .i64 x,(DataW.nil : DataW Unit)):=fun e he x hx=>by
  obtain ⟨y,hy,h1,h2⟩:=hkey e he
  rw [hx] at hy
  cases hy
  unfold Go.WideElems.rd
  rw [hx,Maps.keyOf_int_mk u3 (by simp [Lit.wf,hmin,hmax]; omega)]
  rfl
 refine ⟨_,⟨es,clock,hb,⟨(by rw [<- Array.length_toList]; omega),⟨hS.1,hS.2,?_⟩,fun e he=>?_⟩,(by rw [<- Array.length_toList]; omega),rfl⟩,?_,?_⟩
 ·rw [hkeys]
  exact List.pairwise_map.2 (hnd.imp fun h e=>h (by cases e; rfl))
 ·obtain ⟨x,hx,_⟩:=hkey e he
  exact ⟨_,hrd e he x hx⟩
 ·show (((es.toList.map (Go.WideElems.rg TryQ.prog 3 _)).foldr DataW.insert []).map fun p=>Go.intOf p.1).Perm _
  refine ((Go.WideShapes.sorted_perm _).map _).trans ?_
  rw [List.map_map]
  have : es.toList.map ((fun p : Lit × DataW Unit=>Go.intOf p.1) ∘ Go.WideElems.rg TryQ.prog 3 (fun _=>some (DataW.nil,[]))) = l.map (·.1):=by
   have e1 : (es.toList.map (·.key)).map (fun v=>match v with | .int _ x=>x | _=>0) = l.map (·.1):=by
    rw [hkeys,List.map_map]
    exact List.map_id _
   rw [<- e1,List.map_map]
   refine List.map_congr_left fun e he=>?_
   obtain ⟨x,hx,_⟩:=hkey e he
   simp only [Function.comp]
   unfold Go.WideElems.rg
   rw [hrd e he x hx,hx]
   rfl
  rw [this]
 ·show ((es.toList.map (Go.WideElems.rg TryQ.prog 3 _)).foldr DataW.insert []).length = _
  rw [length_sorted,List.length_map,hlen]
theorem Ans (m : Nat) : AnyZI.SortsIn TryQ.prog TryQ.sortedI_ren Fence.wide m :=
 ⟨fun blk off cap ss W hH hblk hsz=>callsIn_wide.2 (AnyM.slices_Sort_int TryQ.sortI blk off cap ss W hH hblk hsz),
  fun p cap W=>callsIn_wide.2 (AnyM.slices_Sort_int_none TryQ.sortI p cap W)⟩
theorem Aop (mb : Option Nat) (W : World) : Calls TryQ.prog 64 #[.map mb] W fun e w'=>e = .returned (.func (.func 104) #[] #[pq W.heap.size 0]) /\ w' = W.alloc (.cells #[.map mb] 124) :=
 (callsIn_wide (n:=5)).1 (AnyZI.keys_in TryQ.keysI Fence.wide 5 trivial rfl mb W)
theorem Ah0 (Bm b : Nat) (l : List (Int × Value)) (w : World) (hBm : Bm < w.heap.size) (hm : w.cell? ⟨Bm,0,none⟩ = some (.map (some b))) (hM : MapB (fun x : Int=>Value.int .i64 x) w b l) (hnd : (l.map (·.1)).Nodup) (hr : ∀ p ∈ l,-9223372036854775808 <= p.1 /\ p.1 <= 9223372036854775807) (hn : l.length < 1000000000) :
  Calls TryQ.prog 63 #[.func (.func 104) #[] #[pq Bm 0]] w fun e w'=>∃ (v : Value) (ks : List Int),e = .returned v /\ ks.Perm (l.map (·.1)) /\ Up id ks /\ w'.ownsRow w.heap.size 3 1 v ks.length (ks.map fun x : Int=>Value.int .i64 x) /\ Below w.heap.size w w':=by
 obtain ⟨D0,hown,hkeys,hsz⟩:=Aq7 hM hnd hr (by simp [maxLen]; omega)
 have hseq : SeqGives Fence.wide 2 TryQ.prog 104 #[pq Bm 0] encZ (fun ss=>ss.Perm (Go.intKeys D0)) (Maps.size D0) w :=
  AnyZI.keys_gives (ρ:=TryQ.keysI_ren) { TryQ.keysI with } Fence.wide _ trivial rfl (by omega) Bm b l.length D0 _ hBm hm hown
 have cS:=AnyZI.sorted_in TryQ.sortedI Fence.wide 5 trivial trivial trivial trivial rfl (by omega) (Ans _) (enters_of TryQ.func103 (by kernel_rfl) rfl) 104 #[pq Bm 0] trivial (enters_of TryQ.func104 (by kernel_rfl) rfl) _ _ (by rw [hsz]; simp [maxLen]; omega) (by rw [hsz]; omega) w hseq
 change CallsIn _ _ TryQ.prog 63 _ _ _ at cS
 refine ((callsIn_wide (n:=5)).1 cS).mono ?_
 rintro e w' ⟨v,ss,rfl,hS,hrow,_,hb⟩
 have hp : (ss.mergeSort fun x y=>decide (x <= y)).Perm (l.map (·.1)):=(List.mergeSort_perm _ _).trans (hS.trans hkeys)
 refine ⟨v,ss.mergeSort (fun x y=>decide (x <= y)),rfl,hp,?_,by rw [List.length_mergeSort]; exact hrow,hb⟩
 have h1 : (ss.mergeSort fun x y=>decide (x <= y)).Pairwise fun a b=>decide (a <= b) = true:=List.pairwise_mergeSort (fun a b c h1 h2=>by simp at *; omega) (fun a b=>by simp; omega) ss
 have h2 : (ss.mergeSort fun x y=>decide (x <= y)).Nodup:=hp.nodup_iff.2 hnd
 exact List.pairwise_iff_getElem.2 fun i j hi hj hij=>by
  have a1:=of_decide_eq_true (List.pairwise_iff_getElem.1 h1 i j hi hj hij)
  have a2:=List.pairwise_iff_getElem.1 h2 i j hi hj hij
  show (ss.mergeSort _)[i] < (ss.mergeSort _)[j]
  omega
def R5 (L : List (Bt × Nat)) : List (Int × Value):=L.map fun q=>(q.1.id,pq q.2 0)
theorem Ui (L : List (Bt × Nat)) : (R5 L).map (·.1) = L.map (·.1.id):=by unfold R5; rw [List.map_map]; rfl
theorem Ym : ∀ (L : List (Bt × Nat)) (i : Nat) (q : Bt × Nat),(L.map (·.1.id)).Nodup -> q ∈ L -> ∃ j,Ct q.1.id (R5 L) i = some (j,pq q.2 0)
 | [],_,_,_,h=>by cases h
 | r :: L,i,q,hn,h=>by
  have hn':=List.nodup_cons.1 hn
  show ∃ j,Ct q.1.id ((r.1.id,Value.pointer (some ⟨r.2,0,none⟩)) :: R5 L) i = _
  unfold Ct
  by_cases hk : q.1.id = r.1.id
  ·rcases List.mem_cons.1 h with rfl | h
   ·exact ⟨i,by rw [if_pos rfl]⟩
   ·exact absurd (by have h2:=List.mem_map_of_mem (f:=fun x : Bt × Nat=>x.1.id) h; rw [hk] at h2; exact h2) hn'.1
  ·rcases List.mem_cons.1 h with rfl | h
   ·exact absurd rfl hk
   ·rw [if_neg hk]
    exact Ym L (i + 1) q hn'.2 h
structure Qk (w : World) (pl : Nat) (L : List (Bt × Nat)) : Prop where
 ex : ∃ ma,w.cell? ⟨pl,0,none⟩ = some (.map (some ma)) /\ MapB (fun x : Int=>Value.int .i64 x) w ma (R5 L)
 lt : pl < w.heap.size
 acc : ∀ q ∈ L,LedAt w q.2 q.1
 nd : (L.map (·.1.id)).Nodup
 rng : ∀ q ∈ L,0 <= q.1.id /\ q.1.id <= 4294967295
 num : L.length < 100000
theorem Ad4 (ds : List Bt) : (told ds).Perm (ds.map sK):=Jb _ _
theorem Akk {ds : List Bt} (h : (ds.map (·.id)).Nodup) : Up (fun d : Bt=>d.id) (told ds):=Aab _ _ (by rw [List.map_map]; exact h)
theorem Acg (L : List (Bt × Nat)) (pl : Nat) (w : World) (h : Qk w pl L) :
  Calls TryQ.prog 36 #[pq pl 0] w fun e w'=>∃ v os,e = .returned (.slice v.a v.n v.c) /\ Below w.heap.size w w' /\ Lists w.heap.size w' v os /\ os.map (·.1) = told (L.map (·.1)):=by
 obtain ⟨i31,z31,hi31,hz31,hs31,hb31,hzs31⟩:=Aot
 obtain ⟨ma,hpl,hM⟩:=h.ex
 have hplt:=h.lt
 have hnum:=h.num
 have hll : (R5 L).length = L.length:=by simp [R5]
 have hlen:=Iq u82 hM.mapL
 rw [hll] at hlen
 obtain ⟨w1,hmk,hown1,hg1⟩:=run_make_own (P:=TryQ.prog) w w.heap.size 22 52 i31 z31 8 ((Ab 22).trans Tryz.underlying22) hi31 hz31 hs31 .i64 .i64 L.length (by rw [hb31]; omega) (by simp [maxLen]; omega) (Nat.le_refl _)
 have hb1 : Below w.heap.size w w1:=⟨hg1.os,hg1.tape,hg1.output,hg1.size,fun k hk=>hg1.block k hk (by simp)⟩
 have hpl1:=(hb1.cell (p:=⟨pl,0,none⟩) hplt).trans hpl
 have hgl1 : w.heap.size < w1.heap.size:=Ed hown1 _ rfl
 go_enter TryQ.func36,Tryz.ntmps36
 go_wp2_with fail
 refine (Aop (some ma) w1).mono ?_
 rintro e w2 ⟨rfl,hw2⟩
 have hb2 : Below w1.heap.size w1 w2:=by rw [hw2]; exact ba
 have hBm : w2.cell? ⟨w1.heap.size,0,none⟩ = some (.map (some ma)):=by rw [hw2,World.cell?_alloc_new]; rfl
 have hBl : w1.heap.size < w2.heap.size:=by rw [hw2]; simp
 have hM2:=(hM.below hb1).below hb2
 have hso:=Ah0 w1.heap.size ma (R5 L) w2 hBl hBm hM2 (by rw [Ui]; exact h.nd) (fun p hp=>by obtain ⟨q,hq,rfl⟩:=List.mem_map.1 hp; have:=h.rng q hq; show _ <= q.1.id /\ q.1.id <= _; omega) (by rw [hll]; omega)
 have hown2:=own_below hown1 hb2
 clear hw2
 go_wp2_with fail
 refine hso.mono ?_
 rintro e w3 ⟨vi,ks,rfl,hperm,hup,hrow,hbs⟩
 rw [Ui] at hperm
 obtain ⟨T,hT⟩ : ∃ T,told (L.map (·.1)) = T:=⟨_,rfl⟩
 have hTp : T.Perm ((L.map (·.1)).map sK):=by rw [<- hT]; exact Ad4 _
 have hids : (L.map (·.1)).map (·.id) = L.map (·.1.id):=by rw [List.map_map]; rfl
 have hTu : Up (fun d : Bt=>d.id) T:=by rw [<- hT]; exact Akk (by rw [hids]; exact h.nd)
 have hksT : ks = T.map (·.id):=by
  refine Nb (f:=id) (hperm.trans ?_) hup (List.pairwise_map.2 hTu)
  have:=hTp.map (·.id)
  rw [List.map_map,List.map_map] at this
  exact this.symm
 have hTl : T.length = L.length:=by have:=hTp.length_eq; simpa using this
 have hkl : Shut (ks.length = L.length):=by rw [hksT]; simpa [Shut] using hTl
 have hb3 : Below w.heap.size w w3:=(hb1.trans (hb2.mono hb1.size)).trans (hbs.mono (by have:=hb1.size; have:=hb2.size; omega))
 have hown3:=own_below hown2 hbs
 have hL0 : ∀ W,W.ownsRow w.heap.size 52 8 (.slice (some ⟨w.heap.size,0,none⟩) 0 L.length) 0 [] -> Lists w.heap.size W ⟨some ⟨w.heap.size,0,none⟩,0,L.length⟩ []:=fun W hW=>⟨hW,(fun p hp=>by cases hp),(fun p hp=>by cases hp),List.Pairwise.nil⟩
 rcases hrow.2 with ⟨rfl,h0⟩ | ⟨g,cap,cur,rfl,hgb,hgo,_,_,_,_⟩
 ·have hl0 : L.length = 0:=by rw [<- hkl.out]; exact h0
  have hT0 : T = []:=List.eq_nil_of_length_eq_zero (by omega)
  have hL00 : Lists w.heap.size w3 ⟨some ⟨w.heap.size,0,none⟩,0,0⟩ []:=by have:=hL0 w3 hown3; rw [hl0] at this; exact this
  go_wp2_with fail
  go_loopw [3,19] (fun lv i W=>lv = .slice (some ⟨w.heap.size,0,none⟩) 0 0 /\ i = .int .i64 0 /\ W = w3) (fun _ _ _=>0)
  case atStart=>exact ⟨rfl,rfl,rfl⟩
  case round =>
   obtain ⟨rfl,rfl,rfl⟩:=hrel
   go_wp2_with fail
   simp only [bodyPost,results,Tryz.results36,go_sem]
   simp
   refine ⟨⟨some ⟨w.heap.size,0,none⟩,0,0⟩,by simp,hb3,[],hL00,?_⟩
   rw [hT,hT0]; rfl
 ·have hcs : ∀ i x,ks[i]? = some x -> w3.cell? ⟨g,i,none⟩ = some (.int .i64 x):=fun i x hx=>by
   rw [hrow.cellAt i (by have:=(List.getElem?_eq_some_iff.1 hx).1; omega),List.getElem?_map,hx]; rfl
  have hg3 : g < w3.heap.size:=(Array.getElem?_eq_some_iff.1 hgo).1
  rw [hkl.out]
  clear hrow hgo
  go_wp2_with fail
  go_loopw [3,19] (fun lv i W=>∃ (k : Nat) (vL : SV) (os : List (Bt × SV)),lv = .slice vL.a vL.n vL.c /\ i = .int .i64 k /\ k <= L.length /\ Below w.heap.size w W /\ (∀ i x,ks[i]? = some x -> W.cell? ⟨g,i,none⟩ = some (.int .i64 x)) /\ Lists w.heap.size W vL os /\ os.map (·.1) = T.take k /\ vL.blk ≠ some g /\ g < W.heap.size) (fun _ i _=>L.length - (Go.RowKit.intOf i).toNat)
  case atStart=>exact ⟨0,⟨some ⟨w.heap.size,0,none⟩,0,L.length⟩,[],rfl,rfl,Nat.zero_le _,hb3,hcs,hL0 _ hown3,rfl,(by intro e; have e' : w.heap.size = g:=Option.some.inj e; omega),hg3⟩
  case round =>
   obtain ⟨k,vL,os,rfl,rfl,hkk,hb,hcW,hLs,hos,hne,hgW⟩:=hrel
   by_cases hlt : k < L.length
   ·have hlt' : (k : Int) < (L.length : Int):=by omega
    have hlp : k < T.length:=by omega
    have hkk2 : ks[k]? = some T[k].id:=by rw [hksT]; simp [hlp]
    have hc:=hcW k _ hkk2
    have hmem:=hTp.mem_iff.1 (List.getElem_mem hlp)
    obtain ⟨d,hd,hde⟩:=List.mem_map.1 hmem
    obtain ⟨q,hq,rfl⟩:=List.mem_map.1 hd
    have htake : T.take (k + 1) = T.take k ++ [sK q.1]:=by rw [hde]; exact (List.take_append_getElem hlp).symm
    have hidk : T[k].id = q.1.id:=by rw [<- hde]; rfl
    rw [hidk] at hc
    have hcS : Shut (∀ i x,ks[i]? = some x -> wr.cell? ⟨g,i,none⟩ = some (.int .i64 x)):=hcW
    clear hde hmem hd hidk hkk2 hcW hksT hcs
    obtain ⟨jf,hfind⟩:=Ym L 0 q h.nd hq
    have hMr:=hM.below hb
    have hlk : (Instr.lookup 124 (.map (some ma)) (.int .i64 q.1.id) false).run TryQ.prog wr = .ok (pq q.2 0) wr:=by
     have:=Ip intKeys u82 (z:=.pointer none) hMr.mapL (k:=q.1.id) trivial (fun _ _=>trivial) (fun w=>(Af 129 w).trans (Tryz.zeroValue129 w))
     rw [hfind] at this
     exact this
    have hplr:=(hb.cell (p:=⟨pl,0,none⟩) hplt).trans hpl
    have hte:=Ank q.1 q.2 wr ((h.acc q hq).below hb)
    have hlo:=Ed hLs.own
    go_wp2_with fail
    refine hte.mono ?_
    rintro e w4 ⟨v,rfl,hsl,hb4⟩
    have hL4:=hLs.below hb4
    have hac : Am (sK q.1) v = Am q.1 v:=rfl
    rw [hac]
    have hbx : Below w4.heap.size w4 (w4.alloc (.cells (Am q.1 v).toArray 52)):=ba
    have hL5:=hL4.below hbx
    have hsl5:=own_below hsl hbx
    have hn5:=Et w4 (Am q.1 v) 52
    have hs45:=hb4.size
    have hol : os.length = k:=by have:=congrArg List.length hos; simp at this; omega
    have hown5:=hL5.own
    rw [hol] at hown5
    have hbw4:=hb.trans (hb4.mono hb.size)
    clear hac
    unfold Am
    go_wp2_with (at_builtin; go_loud (refine wpList_append_lies _ (by rfl) _ _ 22 (by rfl) w.heap.size 52 i31 z31 8 88 ((Ab 22).trans Tryz.underlying22) hi31 hz31 hs31 hb31 hzs31 (by omega) (.slice vL.a vL.n vL.c) k (Ez os) (by rfl) hown5 ⟨w4.heap.size,0,none⟩ 1 1 (Am q.1 v) (by rfl) rfl (fun j v hj=>by rw [Addr.add_mid]; exact hn5 j v hj) (fun u hu=>Amn _ _ u hu) (by omega) (by simp [maxLen]; omega) (by omega) (by have:=hbw4.size; simp; omega) (w4.heap.size + 1) (by simp) ?_))
    intro g2 n2 w5 hown6 hgrow hat hlt5
    have hb6 : Below w.heap.size w w5:=(hbw4.trans (hbx.mono hbw4.size)).trans (Oz hgrow (Va hown5) (by have:=hbw4.size; simp; omega))
    have hc6 : ∀ i x,ks[i]? = some x -> w5.cell? ⟨g,i,none⟩ = some (.int .i64 x):=fun i x hx=>by
     refine (hgrow.cell_far ⟨g,i,none⟩ (by show g < _; simp; omega) (fun e=>hne e.symm)).trans ?_
     refine (hbx.cell (p:=⟨g,i,none⟩) (by show g < _; omega)).trans ?_
     exact (hb4.cell (p:=⟨g,i,none⟩) hgW).trans (hcS.out i x hx)
    have hvb : ∀ g',v.blk = some g' -> wr.heap.size <= g' /\ g' < w4.heap.size:=fun g' e=>⟨Va hsl g' e,Ed hsl g' e⟩
    have hL6 : Lists w.heap.size w5 ⟨some ⟨g2,0,none⟩,k + 1,n2⟩ (os ++ [(sK q.1,v)]):=by
     refine ⟨?_,fun p hp=>?_,fun p hp g' e1 e2=>?_,?_⟩
     ·have hl : (os ++ [(sK q.1,v)]).length = k + 1:=by simp [hol]
      rw [hl,Mh,Ez,Ez,List.append_nil]; exact hown6
     ·rcases List.mem_append.1 hp with hp | hp
      ·exact Ng (hL5.sl p hp) hgrow (hL5.far p hp)
      ·rw [List.mem_singleton.1 hp]
       exact Ng (Xz hsl5 hb.size) hgrow (fun g' e1 e2=>by have:=(hvb g' e1).1; have:=hlo g' e2; omega)
     ·have e' : g2 = g':=Option.some.inj e2
      rcases List.mem_append.1 hp with hp | hp
      ·rcases hat with hat | hat
       ·exact hLs.far p hp g' e1 (by rw [<- e']; exact hat)
       ·have:=Ed (hLs.sl p hp) g' e1; omega
      ·rw [List.mem_singleton.1 hp] at e1
       have h3:=hvb g' e1
       rcases hat with hat | hat
       ·have:=hlo g2 hat; omega
       ·omega
     ·refine List.pairwise_append.2 ⟨hLs.apart,List.pairwise_singleton _ _,fun p hp r hr g' e1 e2=>?_⟩
      rw [List.mem_singleton.1 hr] at e2
      have:=Ed (hLs.sl p hp) g' e1
      have:=(hvb g' e2).1
      omega
    have hne6 : (SV.mk (some ⟨g2,0,none⟩) (k + 1) n2).blk ≠ some g:=fun e=>by
     have e' : g2 = g:=Option.some.inj e
     rcases hat with hat | hat
     ·exact hne (by rw [<- e']; exact hat)
     ·omega
    have hg6 : g < w5.heap.size:=by have:=hgrow.size; simp at this; omega
    have hos6 : (os ++ [(sK q.1,v)]).map (·.1) = T.take (k + 1):=by rw [htake,List.map_append,hos]; rfl
    clear hown6 hgrow hat hlt5 hlk hMr hplr hc
    go_wp2_with fail
    refine ⟨⟨k + 1,_,_,rfl,by go_num,by omega,hb6,hc6,hL6,hos6,hne6,hg6⟩,?_⟩
    simp [Go.RowKit.intOf]; omega
   ·have hk' : k = L.length:=by omega
    subst hk'
    go_wp2_with fail
    simp only [bodyPost,results,Tryz.results36,go_sem]
    simp
    refine ⟨vL,by simp,hb,os,hLs,?_⟩
    rw [hos,hT,<- hTl,List.take_length]
theorem Re (L : List (Bt × Nat)) (pw pl : Nat) (w : World) (hw : w.cell? ⟨pw,0,none⟩ = some (pq pl 0)) (h : Qk w pl L) :
  Calls TryQ.prog 17 #[pq pw 0] w fun e w'=>∃ v os,e = .returned (.slice v.a v.n v.c) /\ Below w.heap.size w w' /\ Lists w.heap.size w' v os /\ os.map (·.1) = told (L.map (·.1)):=by
 have hac:=Acg L pl w h
 go_enter TryQ.func17,Tryz.ntmps17
 go_wp2_with fail
 refine hac.mono ?_
 rintro e w1 ⟨v,os,rfl,hb,hL,hos⟩
 go_wp2_with fail
 go_ret
 exact ⟨v,os,rfl,hb,hL,hos⟩
end Go.Mark
namespace Go.Mark
open Go.RowKit Go.Proofs
theorem Ab5 (ss : List (Nat × Nat)) (a : Option Addr) (cap : Nat) (w : World) (hA : ss = [] \/ ∃ b o,a = some ⟨b,o,none⟩ /\ SlotsFrom w b o ss) (hn : ss.length < 2199023255552) (hm : ∀ p ∈ ss,p.1 < M /\ p.2 < M) (hnd : (ss.map (·.1)).Nodup) :
  Calls TryQ.prog 62 #[.slice a ss.length cap] w fun e w'=>e = .returned (.map (some w.heap.size)) /\ MapB wd w' w.heap.size (Od ss) /\ Below w.heap.size w w' /\ w.heap.size < w'.heap.size:=by
 have u91 : TryQ.prog.underlying 133 = some (.map 41 41):=(Ab 133).trans Tryz.underlying133
 have hmk:=fun W=>Qs (mt:=133) W
 go_enter TryQ.func62,Tryz.ntmps62
 go_wp2
 go_loopw [9] (fun i wr=>∃ k : Nat,i = .int .i64 k /\ k <= ss.length /\ MapB wd wr w.heap.size (Od (ss.take k)) /\ Below w.heap.size w wr /\ w.heap.size < wr.heap.size) (fun i _=>ss.length - (Go.RowKit.intOf i).toNat)
 case atStart =>
  exact ⟨0,rfl,Nat.zero_le _,MapB.new wd w,ba,by simp⟩
 case round =>
  obtain ⟨k,rfl,hk,hM,hB,hsz⟩:=hrel
  by_cases hlt : k < ss.length
  ·have hlt' : (k : Int) < (ss.length : Int):=by omega
   obtain ⟨b,o,rfl,hA2⟩:=hA.resolve_left (fun h=>by subst h; simp at hlt)
   have hA':=(hA2.below hB) k ss[k] (List.getElem?_eq_getElem hlt)
   have c0:=hA' 0 _ rfl
   have c1:=hA' 1 _ rfl
   have c2:=hA' 2 _ rfl
   have c3:=hA' 3 _ rfl
   have c4:=hA' 4 _ rfl
   have c5:=hA' 5 _ rfl
   have c6:=hA' 6 _ rfl
   have c7:=hA' 7 _ rfl
   rw [Nat.add_zero] at c0
   clear hA'
   have hmk':=hm _ (List.getElem_mem hlt)
   have hq:=eqz ss[k].2 hmk'.2
   unfold wd at hq
   have hs' : w.heap.size < (wr.alloc (.cells (Ba ss[k]).toArray 72)).heap.size:=by simp; omega
   have hBa:=hB.alloc (Nat.le_of_lt hsz) (.cells (Ba ss[k]).toArray 72)
   by_cases h0 : ss[k].2 = 0
   ·have hk0 : Shut (ss[k].2 = 0):=h0
    rw [decide_eq_true h0] at hq
    clear h0
    go_wp2
    refine ⟨⟨k + 1,by go_num,by omega,?_,hBa,hs'⟩,?_⟩
    ·unfold Od
     rw [Afx ss k hlt hk0.out]
     exact hM.below ba
    ·simp [Go.RowKit.intOf]; omega
   ·have hk0 : Shut (¬ ss[k].2 = 0):=h0
    rw [decide_eq_false h0] at hq
    clear h0
    go_wp2
    refine Eo Gq u91 (k:=ss[k].1) (v:=wd ss[k].2) (hM.below ba) hmk'.1 (fun p hp=>by
     obtain ⟨q,hq,e⟩:=Uj _ p.1 (List.mem_map_of_mem hp)
     rw [<- e]
     exact (hm q (List.mem_of_mem_take hq)).1) (fun o' hM'=>?_)
    have hB':=Gh hBa (Nat.le_refl _) o'
    rw [Lf] at hM'
    rotate_left
    ·intro h
     obtain ⟨q,hq,e⟩:=Uj _ _ h
     obtain ⟨i,hi,rfl⟩:=List.mem_iff_getElem.1 hq
     have hi' : i < k:=by simp at hi; omega
     have h1:=List.pairwise_iff_getElem.1 hnd i k (by simp; omega) (by simpa using hlt) hi'
     simp at h1
     simp at e
     exact h1 e
    have e : Od (ss.take k) ++ [(ss[k].1,wd ss[k].2)] = Od (ss.take (k + 1)):=by
     unfold Od
     rw [Afw ss k hlt hk0.out,List.map_append]
     rfl
    rw [e] at hM'
    go_wp2
    go_roundw
    case rel =>
     exact ⟨k + 1,by go_num,by omega,hM',hB',by simpa using hs'⟩
    case measure=>simp [Go.RowKit.intOf]; omega
  ·have hk' : k = ss.length:=by omega
   subst hk'
   rw [List.take_length] at hM
   go_wp2
   simp [bodyPost,results,Tryz.results62,go_sem]
   exact ⟨hM,hB,hsz⟩
end Go.Mark
namespace Go.Proofs
open Go.Mark Go.RowKit Go.Shelf
def TryQ.clone_ren : Go.Shelf.Ren:=⟨fun | 316=>101 | n=>n,fun | 9=>9 | 3=>3 | 4=>4 | 37=>31 | 0=>0 | 127=>244 | 5=>5 | n=>n,fun | n=>n⟩
theorem TryQ.clone : Go.Proofs.LaysM.n316 TryQ.prog TryQ.clone_ren where
 mixed:=by kernel_rfl
 f316:=TryQ.func101.trans (congrArg some (by kernel_rfl))
 t0:=(Ab 0).trans Tryz.underlying0
 a0:=fun w=>(Ak 0 w).trans (Tryz.isAgg0 w)
 z0:=fun w=>(Ag 0 w).trans (Tryz.sizeOf0 w)
 v0:=fun w=>(Af 0 w).trans (Tryz.zeroValue0 w)
 t3:=(Ab 3).trans Tryz.underlying3
 a3:=fun w=>(Ak 3 w).trans (Tryz.isAgg3 w)
 z3:=fun w=>(Ag 3 w).trans (Tryz.sizeOf3 w)
 v3:=fun w=>(Af 3 w).trans (Tryz.zeroValue3 w)
 t4:=(Ab 4).trans Tryz.underlying4
 a4:=fun w=>(Ak 4 w).trans (Tryz.isAgg4 w)
 z4:=fun w=>(Ag 4 w).trans (Tryz.sizeOf4 w)
 v4:=fun w=>(Af 4 w).trans (Tryz.zeroValue4 w)
 t9:=(Ab 9).trans Tryz.underlying9
 a9:=fun w=>(Ak 9 w).trans (Tryz.isAgg9 w)
 z9:=fun w=>(Ag 9 w).trans (Tryz.sizeOf9 w)
 v9:=fun w=>(Af 9 w).trans (Tryz.zeroValue9 w)
 t37:=(Ab 31).trans Tryz.underlying31
 a37:=fun w=>(Ak 31 w).trans (Tryz.isAgg31 w)
 z37:=fun w=>(Ag 31 w).trans (Tryz.sizeOf31 w)
 v37:=fun w=>(Af 31 w).trans (Tryz.zeroValue31 w)
 t127:=(Ab 244).trans Tryz.underlying244
 a127:=fun w=>(Ak 244 w).trans (Tryz.isAgg244 w)
 z127:=fun w=>(Ag 244 w).trans (Tryz.sizeOf244 w)
 v127:=fun w=>(Af 244 w).trans (Tryz.zeroValue244 w)
 t5:=(Ab 5).trans Tryz.underlying5
 a5:=fun w=>(Ak 5 w).trans (Tryz.isAgg5 w)
 z5:=fun w=>(Ag 5 w).trans (Tryz.sizeOf5 w)
 v5:=fun w=>(Af 5 w).trans (Tryz.zeroValue5 w)
 i0:=by kernel_rfl
 i3:=by kernel_rfl
 i4:=by kernel_rfl
 i5:=by kernel_rfl
 i9:=by kernel_rfl
 i37:=by kernel_rfl
 i127:=by kernel_rfl
theorem Ami (s : ByteArray) (w : World) (h : s.size <= 281474976710656) : Calls TryQ.prog 61 #[.string s] w fun e w'=>e = .returned (.string s) /\ Below w.heap.size w w':=by
 have hc:=Any.stringslite_Clone TryQ.clone s w h
 change Calls TryQ.prog 101 _ _ _ at hc
 go_enter TryQ.func61,Tryz.ntmps61
 go_wp2_with fail
 refine hc.mono ?_
 rintro e w1 ⟨rfl,hb⟩
 go_wp2_with fail
 go_ret
 exact ⟨rfl,hb⟩
end Go.Proofs
