import Derived.Shelf.SortM.Plain
import Derived.Shelf.SortM.SortNone
import Derived.Shelf.Strconv.Clone
import Derived.Shelf.SlSortCmp.NoneTotal
import Derived.Test.YtbephahokhnccaaGreatDoorJ6
import Derived.Test.YtbephahokhnccaaGreatDoorJ7
set_option linter.all false
set_option maxRecDepth 100000
set_option maxHeartbeats 4000000
namespace Go.Proofs
section
open Go.Mark Go.RowKit Go.Maps Go.Sort Go.Shelf
open Tryz
def Ym:Go.Shelf.Ren:=⟨fun|7=>64|10=>104|n=>n,fun|23=>124|26=>3|3=>129|28=>140|0=>0|27=>139|33=>160|4=>4|n=>n,fun|n=>n⟩
def Yn:Go.Proofs.SlLaysZI.n7 zQ.prog Ym where
 mixed:=kR
 f7:=⟨ "maps.Keys[map[int]*purser/ledger.account,int,*purser/ledger.account]",dC,(qz func64).tr (congrArg some kR)⟩
 f10:=⟨ "maps.Keys[map[int]*purser/ledger.account,int,*purser/ledger.account]$1",dC,(qz func104).tr (congrArg some kR)⟩
 t0:=(aC 0).tr underlying0
 a0:=fun w=>(aR 0 w).tr (isAgg0 w)
 z0:=fun w=>(aN 0 w).tr (sizeOf0 w)
 v0:=fun w=>(aK 0 w).tr (zeroValue0 w)
 t4:=(aC 4).tr underlying4
 a4:=fun w=>(aR 4 w).tr (isAgg4 w)
 z4:=fun w=>(aN 4 w).tr (sizeOf4 w)
 v4:=fun w=>(aK 4 w).tr (zeroValue4 w)
 t23:=(aC 124).tr underlying124
 a23:=fun w=>(aR 124 w).tr (isAgg124 w)
 z23:=fun w=>(aN 124 w).tr (sizeOf124 w)
 v23:=fun w=>(aK 124 w).tr (zeroValue124 w)
 t26:=(aC 3).tr underlying3
 a26:=fun w=>(aR 3 w).tr (isAgg3 w)
 z26:=fun w=>(aN 3 w).tr (sizeOf3 w)
 v26:=fun w=>(aK 3 w).tr (zeroValue3 w)
 t27:=(aC 139).tr underlying139
 a27:=fun w=>(aR 139 w).tr (isAgg139 w)
 z27:=fun w=>(aN 139 w).tr (sizeOf139 w)
 v27:=fun w=>(aK 139 w).tr (zeroValue139 w)
 t28:=(aC 140).tr underlying140
 a28:=fun w=>(aR 140 w).tr (isAgg140 w)
 z28:=fun w=>(aN 140 w).tr (sizeOf140 w)
 v28:=fun w=>(aK 140 w).tr (zeroValue140 w)
 t33:=(aC 160).tr underlying160
 a33:=fun w=>(aR 160 w).tr (isAgg160 w)
 z33:=fun w=>(aN 160 w).tr (sizeOf160 w)
 v33:=fun w=>(aK 160 w).tr (zeroValue160 w)
def Yo:Go.Shelf.Ren:=⟨fun|6=>63|8=>102|9=>103|11=>158|13=>160|12=>159|23=>200|24=>201|14=>191|15=>192|16=>193|17=>194|18=>195|19=>196|20=>197|21=>198|22=>199|25=>228|26=>229|27=>230|28=>231|29=>232|30=>233|31=>264|n=>n,fun|26=>3|28=>140|24=>137|0=>0|3=>3|37=>93|48=>187|50=>39|4=>4|40=>280|39=>279|45=>284|5=>5|9=>9|51=>308|55=>311|57=>339|58=>340|33=>160|n=>n,fun|n=>n⟩
def Z7:Go.Proofs.SlLaysZI.n6 zQ.prog Yo where
 mixed:=kR
 f6:=⟨ "slices.Sorted[int]",dC,(qz func63).tr (congrArg some kR)⟩
 f8:=⟨ "slices.Collect[int]",dC,(qz func102).tr (congrArg some kR)⟩
 f11:=⟨ "slices.AppendSeq[[]int,int]",dC,(qz func158).tr (congrArg some kR)⟩
 t0:=(aC 0).tr underlying0
 a0:=fun w=>(aR 0 w).tr (isAgg0 w)
 z0:=fun w=>(aN 0 w).tr (sizeOf0 w)
 v0:=fun w=>(aK 0 w).tr (zeroValue0 w)
 t24:=(aC 137).tr underlying137
 a24:=fun w=>(aR 137 w).tr (isAgg137 w)
 z24:=fun w=>(aN 137 w).tr (sizeOf137 w)
 v24:=fun w=>(aK 137 w).tr (zeroValue137 w)
 t26:=(aC 3).tr underlying3
 a26:=fun w=>(aR 3 w).tr (isAgg3 w)
 z26:=fun w=>(aN 3 w).tr (sizeOf3 w)
 v26:=fun w=>(aK 3 w).tr (zeroValue3 w)
 t28:=(aC 140).tr underlying140
 a28:=fun w=>(aR 140 w).tr (isAgg140 w)
 z28:=fun w=>(aN 140 w).tr (sizeOf140 w)
 v28:=fun w=>(aK 140 w).tr (zeroValue140 w)
 i26:=kR
def Z8:Go.Shelf.Ren:=⟨fun|5=>103|8=>160|7=>159|19=>200|20=>201|10=>191|11=>192|12=>193|13=>194|14=>195|15=>196|16=>197|17=>198|18=>199|30=>228|31=>229|32=>230|33=>231|34=>232|35=>233|40=>264|n=>n,fun|23=>137|25=>3|3=>3|32=>93|22=>137|0=>0|44=>187|46=>39|4=>4|36=>280|35=>279|41=>284|5=>5|9=>9|53=>308|57=>311|63=>339|64=>340|n=>n,fun|n=>n⟩
def Yp:Go.Proofs.SlLaysM.n5 zQ.prog Z8 where
 mixed:=kR
 f5:=⟨ "slices.Sort[[]int,int]",dC,(qz func103).tr (congrArg some kR)⟩
 f7:=⟨ "slices.pdqsortOrdered[int]",dC,(qz func159).tr (congrArg some kR)⟩
 f8:=(qz func160).tr (congrArg some kR)
 f10:=⟨ "slices.insertionSortOrdered[int]",dC,(qz func191).tr (congrArg some kR)⟩
 f11:=⟨ "slices.heapSortOrdered[int]",dC,(qz func192).tr (congrArg some kR)⟩
 f12:=⟨ "slices.breakPatternsOrdered[int]",dC,(qz func193).tr (congrArg some kR)⟩
 f13:=⟨ "slices.choosePivotOrdered[int]",dC,(qz func194).tr (congrArg some kR)⟩
 f14:=⟨ "slices.reverseRangeOrdered[int]",dC,(qz func195).tr (congrArg some kR)⟩
 f15:=⟨ "slices.partialInsertionSortOrdered[int]",dC,(qz func196).tr (congrArg some kR)⟩
 f16:=⟨ "cmp.Less[int]",dC,(qz func197).tr (congrArg some kR)⟩
 f17:=⟨ "slices.partitionEqualOrdered[int]",dC,(qz func198).tr (congrArg some kR)⟩
 f18:=⟨ "slices.partitionOrdered[int]",dC,(qz func199).tr (congrArg some kR)⟩
 f19:=(qz func200).tr (congrArg some kR)
 f20:=(qz func201).tr (congrArg some kR)
 f30:=⟨ "slices.siftDownOrdered[int]",dC,(qz func228).tr (congrArg some kR)⟩
 f31:=(qz func229).tr (congrArg some kR)
 f32:=(qz func230).tr (congrArg some kR)
 f33:=⟨ "slices.medianAdjacentOrdered[int]",dC,(qz func231).tr (congrArg some kR)⟩
 f34:=⟨ "slices.medianOrdered[int]",dC,(qz func232).tr (congrArg some kR)⟩
 f35:=⟨ "cmp.isNaN[int]",dC,(qz func233).tr (congrArg some kR)⟩
 f40:=⟨ "slices.order2Ordered[int]",dC,(qz func264).tr (congrArg some kR)⟩
 t0:=(aC 0).tr underlying0
 a0:=fun w=>(aR 0 w).tr (isAgg0 w)
 z0:=fun w=>(aN 0 w).tr (sizeOf0 w)
 v0:=fun w=>(aK 0 w).tr (zeroValue0 w)
 t3:=(aC 3).tr underlying3
 a3:=fun w=>(aR 3 w).tr (isAgg3 w)
 z3:=fun w=>(aN 3 w).tr (sizeOf3 w)
 v3:=fun w=>(aK 3 w).tr (zeroValue3 w)
 t4:=(aC 4).tr underlying4
 a4:=fun w=>(aR 4 w).tr (isAgg4 w)
 z4:=fun w=>(aN 4 w).tr (sizeOf4 w)
 v4:=fun w=>(aK 4 w).tr (zeroValue4 w)
 t5:=(aC 5).tr underlying5
 a5:=fun w=>(aR 5 w).tr (isAgg5 w)
 z5:=fun w=>(aN 5 w).tr (sizeOf5 w)
 v5:=fun w=>(aK 5 w).tr (zeroValue5 w)
 t9:=(aC 9).tr underlying9
 a9:=fun w=>(aR 9 w).tr (isAgg9 w)
 z9:=fun w=>(aN 9 w).tr (sizeOf9 w)
 v9:=fun w=>(aK 9 w).tr (zeroValue9 w)
 t22:=(aC 137).tr underlying137
 a22:=fun w=>(aR 137 w).tr (isAgg137 w)
 z22:=fun w=>(aN 137 w).tr (sizeOf137 w)
 v22:=fun w=>(aK 137 w).tr (zeroValue137 w)
 t23:=(aC 137).tr underlying137
 a23:=fun w=>(aR 137 w).tr (isAgg137 w)
 z23:=fun w=>(aN 137 w).tr (sizeOf137 w)
 v23:=fun w=>(aK 137 w).tr (zeroValue137 w)
 t25:=(aC 3).tr underlying3
 a25:=fun w=>(aR 3 w).tr (isAgg3 w)
 z25:=fun w=>(aN 3 w).tr (sizeOf3 w)
 v25:=fun w=>(aK 3 w).tr (zeroValue3 w)
 t32:=(aC 93).tr underlying93
 a32:=fun w=>(aR 93 w).tr (isAgg93 w)
 z32:=fun w=>(aN 93 w).tr (sizeOf93 w)
 v32:=fun w=>(aK 93 w).tr (zeroValue93 w)
 t35:=(aC 279).tr underlying279
 a35:=fun w=>(aR 279 w).tr (isAgg279 w)
 z35:=fun w=>(aN 279 w).tr (sizeOf279 w)
 v35:=fun w=>(aK 279 w).tr (zeroValue279 w)
 t36:=(aC 280).tr underlying280
 a36:=fun w=>(aR 280 w).tr (isAgg280 w)
 z36:=fun w=>(aN 280 w).tr (sizeOf280 w)
 v36:=fun w=>(aK 280 w).tr (zeroValue280 w)
 t41:=(aC 284).tr underlying284
 a41:=fun w=>(aR 284 w).tr (isAgg284 w)
 z41:=fun w=>(aN 284 w).tr (sizeOf284 w)
 v41:=fun w=>(aK 284 w).tr (zeroValue284 w)
 t44:=(aC 187).tr underlying187
 a44:=fun w=>(aR 187 w).tr (isAgg187 w)
 z44:=fun w=>(aN 187 w).tr (sizeOf187 w)
 v44:=fun w=>(aK 187 w).tr (zeroValue187 w)
 t46:=(aC 39).tr underlying39
 a46:=fun w=>(aR 39 w).tr (isAgg39 w)
 z46:=fun w=>(aN 39 w).tr (sizeOf39 w)
 v46:=fun w=>(aK 39 w).tr (zeroValue39 w)
 t53:=(aC 308).tr underlying308
 a53:=fun w=>(aR 308 w).tr (isAgg308 w)
 z53:=fun w=>(aN 308 w).tr (sizeOf308 w)
 v53:=fun w=>(aK 308 w).tr (zeroValue308 w)
 t57:=(aC 311).tr underlying311
 a57:=fun w=>(aR 311 w).tr (isAgg311 w)
 z57:=fun w=>(aN 311 w).tr (sizeOf311 w)
 v57:=fun w=>(aK 311 w).tr (zeroValue311 w)
 t63:=(aC 339).tr underlying339
 a63:=fun w=>(aR 339 w).tr (isAgg339 w)
 z63:=fun w=>(aN 339 w).tr (sizeOf339 w)
 v63:=fun w=>(aK 339 w).tr (zeroValue339 w)
 t64:=(aC 340).tr underlying340
 a64:=fun w=>(aR 340 w).tr (isAgg340 w)
 z64:=fun w=>(aN 340 w).tr (sizeOf340 w)
 v64:=fun w=>(aK 340 w).tr (zeroValue340 w)
end
section
open Go.Mark Go.RowKit Go.Shelf
open Tryz
def Z9:Go.Shelf.Ren:=⟨fun|316=>101|n=>n,fun|9=>9|3=>3|4=>4|37=>31|0=>0|127=>244|5=>5|n=>n,fun|n=>n⟩
def aAa:Go.Proofs.LaysM.n316 zQ.prog Z9 where
 mixed:=kR
 f316:=(qz func101).tr (congrArg some kR)
 t0:=(aC 0).tr underlying0
 a0:=fun w=>(aR 0 w).tr (isAgg0 w)
 z0:=fun w=>(aN 0 w).tr (sizeOf0 w)
 v0:=fun w=>(aK 0 w).tr (zeroValue0 w)
 t3:=(aC 3).tr underlying3
 a3:=fun w=>(aR 3 w).tr (isAgg3 w)
 z3:=fun w=>(aN 3 w).tr (sizeOf3 w)
 v3:=fun w=>(aK 3 w).tr (zeroValue3 w)
 t4:=(aC 4).tr underlying4
 a4:=fun w=>(aR 4 w).tr (isAgg4 w)
 z4:=fun w=>(aN 4 w).tr (sizeOf4 w)
 v4:=fun w=>(aK 4 w).tr (zeroValue4 w)
 t9:=(aC 9).tr underlying9
 a9:=fun w=>(aR 9 w).tr (isAgg9 w)
 z9:=fun w=>(aN 9 w).tr (sizeOf9 w)
 v9:=fun w=>(aK 9 w).tr (zeroValue9 w)
 t37:=(aC 31).tr underlying31
 a37:=fun w=>(aR 31 w).tr (isAgg31 w)
 z37:=fun w=>(aN 31 w).tr (sizeOf31 w)
 v37:=fun w=>(aK 31 w).tr (zeroValue31 w)
 t127:=(aC 244).tr underlying244
 a127:=fun w=>(aR 244 w).tr (isAgg244 w)
 z127:=fun w=>(aN 244 w).tr (sizeOf244 w)
 v127:=fun w=>(aK 244 w).tr (zeroValue244 w)
 t5:=(aC 5).tr underlying5
 a5:=fun w=>(aR 5 w).tr (isAgg5 w)
 z5:=fun w=>(aN 5 w).tr (sizeOf5 w)
 v5:=fun w=>(aK 5 w).tr (zeroValue5 w)
 i0:=kR
 i3:=kR
 i4:=kR
 i5:=kR
 i9:=kR
 i37:=kR
 i127:=kR
def ui(s:Lp)(w:WR)(h:s.size<=281474976710656):Cq 61 #[.string s] w fun e b=>e=.rt (.string s)/\Bw w b:=by have a:=Any.stringslite_Clone aAa s w h;change Cq 101 _ _ _ at a;go_enter (qz func61),ntmps61;go_wp2_with fail;apply a.mono;rintro e w1 ⟨rfl,c⟩;go_wp2_with fail;go_ret;exact⟨rfl,c⟩
end
end Go.Proofs
namespace Go.Mark
open Go.RowKit Go.Proofs Go.Proofs.Tryz
variable{pa:Nat}{w w':WR}{d:bF}
section
open Go.Sort Go.Shelf
def Gr(w w':WR):Prop:=∃q a,w'=grow (w.drewN q) a
def Gr.refl(w:WR):Gr w w:=⟨0,#[],by simp[World.drewN]⟩
def Gr.alloc(h:Gr w w')(o:Obj):Gr w (w'.alloc o):=by obtain⟨q,a,rfl⟩:=h;exact⟨q,a++#[o],by rw[alloc_eq_grow,grow_grow]⟩
def Gr.aL(h:Gr w w')(o:Obj):Gr w (w'.alloc o):=Gr.alloc h o
def Gr.drewN(h:Gr w w')(n:Nat):Gr w (w'.drewN n):=by obtain⟨q,a,rfl⟩:=h;exact⟨q+n,a,by simp[World.drewN,grow,aBY]⟩
def C4(d i j a g f k b:Int)(h:(a !=b)=true)(w:WR):
  Cq 163 #[.agg #[vU d,vU i,vU j,vU a],.agg #[vU g,vU f,vU k,vU b]] w fun e w'=>e=.rt (vI (dZ a b))/\Gr w w':=by
 go_enter (qz func163),ntmps163;go_wp2;refine wp_loop_rounds 5 ?_;rw[rounds_succ];go_wp2
 go_quiet (fail)
 go_wp2
 go_region_with (go_at_call 205;apply(vN a b _).mono;rintro e w' ⟨rfl,c⟩;rw[c])
 all_goals
  go_wp2;go_ret;exact⟨rfl,by first|exact Gr.drewN (Gr.aL (Gr.aL (Gr.refl _) _) _) _|exact Gr.aL (Gr.aL (Gr.refl _) _) _| (repeat (first|exact Gr.refl _|apply Gr.drewN|apply Gr.drew|apply Gr.aL))⟩
def C5(f j a i g b c:Int)(h:(a !=b)=true)(w:WR):
  Cq 163 #[.agg #[vU f,vU j,vU a,vU c],.agg #[vU i,vU g,vU b,vU c]] w fun e w'=>e=.rt (vI (dZ a b))/\Gr w w':=by
 go_enter (qz func163),ntmps163;go_wp2;refine wp_loop_rounds 5 ?_;rw[rounds_succ];go_wp2
 go_quiet (fail)
 go_wp2;rw[rounds_succ];go_wp2
 go_quiet (fail)
 go_wp2
 go_region_with (go_at_call 205;apply(vN a b _).mono;rintro e w' ⟨rfl,d⟩;rw[d])
 all_goals
  go_wp2;go_ret;exact⟨rfl,by first|exact Gr.drewN (Gr.aL (Gr.aL (Gr.refl _) _) _) _|exact Gr.aL (Gr.aL (Gr.refl _) _) _| (repeat (first|exact Gr.refl _|apply Gr.drewN|apply Gr.drew|apply Gr.aL))⟩
def C6(g b i a d c:Int)(h:(b !=a)=true)(w:WR):
  Cq 163 #[.agg #[vU g,vU b,vU d,vU c],.agg #[vU i,vU a,vU d,vU c]] w fun e w'=>e=.rt (vI (dZ b a))/\Gr w w':=by
 go_enter (qz func163),ntmps163;go_wp2;refine wp_loop_rounds 5 ?_;rw[rounds_succ];go_wp2
 go_quiet (fail)
 go_wp2;rw[rounds_succ];go_wp2
 go_quiet (fail)
 go_wp2;rw[rounds_succ];go_wp2
 go_quiet (fail)
 go_wp2
 go_region_with (go_at_call 205;apply(vN b a _).mono;rintro e w' ⟨rfl,f⟩;rw[f])
 all_goals
  go_wp2;go_ret;exact⟨rfl,by first|exact Gr.drewN (Gr.aL (Gr.aL (Gr.refl _) _) _) _|exact Gr.aL (Gr.aL (Gr.refl _) _) _| (repeat (first|exact Gr.refl _|apply Gr.drewN|apply Gr.drew|apply Gr.aL))⟩
def C7(a b c f d:Int)(h:(a !=b)=true)(w:WR):
  Cq 163 #[.agg #[vU a,vU c,vU f,vU d],.agg #[vU b,vU c,vU f,vU d]] w fun e w'=>e=.rt (vI (dZ a b))/\Gr w w':=by
 go_enter (qz func163),ntmps163;go_wp2;refine wp_loop_rounds 5 ?_;rw[rounds_succ];go_wp2
 go_quiet (fail)
 go_wp2;rw[rounds_succ];go_wp2
 go_quiet (fail)
 go_wp2;rw[rounds_succ];go_wp2
 go_quiet (fail)
 go_wp2;rw[rounds_succ];go_wp2
 go_quiet (fail)
 go_wp2
 go_region_with (go_at_call 205;apply(vN a b _).mono;rintro e w' ⟨rfl,g⟩;rw[g])
 all_goals
  go_wp2;go_ret;exact⟨rfl,by first|exact Gr.drewN (Gr.aL (Gr.aL (Gr.refl _) _) _) _|exact Gr.aL (Gr.aL (Gr.refl _) _) _| (repeat (first|exact Gr.refl _|apply Gr.drewN|apply Gr.drew|apply Gr.aL))⟩
def ue(a b d c:Int)(w:WR):
  Cq 163 #[.agg #[vU a,vU b,vU d,vU c],.agg #[vU a,vU b,vU d,vU c]] w fun e w'=>e=.rt (vI 0)/\Gr w w':=by
 go_enter (qz func163),ntmps163;go_wp2;refine wp_loop_rounds 5 ?_;rw[rounds_succ];go_wp2
 go_quiet (fail)
 go_wp2;rw[rounds_succ];go_wp2
 go_quiet (fail)
 go_wp2;rw[rounds_succ];go_wp2
 go_quiet (fail)
 go_wp2;rw[rounds_succ];go_wp2
 go_quiet (fail)
 go_wp2;rw[rounds_succ];go_wp2;go_ret;exact⟨rfl,by first|exact Gr.drewN (Gr.aL (Gr.aL (Gr.refl _) _) _) _|exact Gr.aL (Gr.aL (Gr.refl _) _) _| (repeat (first|exact Gr.refl _|apply Gr.drewN|apply Gr.drew|apply Gr.aL))⟩
def ij(a b:Nat)(p:a<M)(o:b<M)(w:WR):
  Cq 163 #[wd a,wd b] w fun e w'=>e=.rt (vI (dZ a b))/\Gr w w':=by
 have B:=iN a p;have E:=iN b o;have y:=bJ a 0;have C:=bJ a 1;have D:=bJ a 2;have x:=bJ a 3;have u:=bN a 0;have v:=bN a 1;have s:=bN a 2;have u3:=bN a 3;have t:=bJ b 0;have k1:=bJ b 1;have A:=bJ b 2;have r:=bJ b 3;have v0:=bN b 0;have v1:=bN b 1;have z:=bN b 2;have q:=bN b 3;unfold wd;generalize aI a 0=d at*;generalize aI a 1=f at*;generalize aI a 2=g at*;generalize aI a 3=c at*;generalize aI b 0=h at*;generalize aI b 1=i at*;generalize aI b 2=j at*;generalize aI b 3=k at*;by_cases h3:c=k
 .subst h3;by_cases l:g=j
  .subst l;by_cases n:f=i
   .subst n;by_cases m:d=h
    .subst m;have e:dZ a b=0:=by unfold dZ;rw[if_neg oM,if_neg oM]
     rw[e];exact ue d f g c w
    .have e:dZ a b=dZ d h:=by unfold dZ;split<;>split<;>(try split)<;>(try split)<;>first|rfl|omega
     rw[e];exact C7 d h f g c (by simpa using m) w
   .have e:dZ a b=dZ f i:=by unfold dZ;split<;>split<;>(try split)<;>(try split)<;>first|rfl|omega
    rw[e];exact C6 d f h i g c (by simpa using n) w
  .have e:dZ a b=dZ g j:=by unfold dZ;split<;>split<;>(try split)<;>(try split)<;>first|rfl|omega
   rw[e];exact C5 d f g h i j c (by simpa using l) w
 .have e:dZ a b=dZ c k:=by unfold dZ;split<;>split<;>(try split)<;>(try split)<;>first|rfl|omega
  rw[e];exact C4 d f g c h i j k (by simpa using h3) w
end
section
open Go.Maps Go.Sort Go.Shelf
abbrev Wd:Type:={k:Nat // k<M}
instance:Inhabited Wd:=⟨⟨0,dC⟩⟩
def GM(x:Wd):K3:=wc x.1
def Ih(x y:Wd):Int:=dZ (x.1:Int) (y.1:Int)
def Li(x y:Wd):ltOf Ih x y=decide (x.1<y.1):=by
 unfold ltOf Ih dZ;by_cases b:(x.1:Int)<(y.1:Int)
 .have a:x.1<y.1:=oM
  rw[if_pos b];simp[a]
 .have a:¬x.1<y.1:=oM
  rw[if_neg b];by_cases c:(y.1:Int)<(x.1:Int)<;>simp[a,c]
def Ni:SWO (ltOf Ih) where
 irrefl x:=by rw[Li];simp
 trans x y z h1 h2:=by rw[Li] at*;simp at*;omega
 ntrans x y z h1 h2:=by rw[Li] at*;simp at*;omega
def ik(blk off size:Nat)(w:WR):CmpLays zQ.prog 163 #[] GM 4 Ih blk off size w:=fun _ _ _ _ x y=>
 (ij x.1 y.1 x.2 y.2 _).mono fun _ _ ⟨c,q,a,b⟩=>⟨c,q,a,b⟩
theorem KJ:∀(l:K4) (i k:Nat),l[i]?=some k->∀c:Nat,c<4->(gE l)[i*4+c]?=(wc k)[c]?
 | [],_,_,h,_,_=>by simp at h
 |q::l,0,p,h,j,a=>by cases h;rw[gE,aBI (by show _<4;omega)];congr 1;omega
 |q::l,i+1,p,h,j,a=>by rw[gE,aBn (by show 4<=_;omega),<-KJ l i p (by simpa using h) j a];congr 1;show _ - 4=_;omega
theorem Ii:∀a:K4,(∀k∈a,k<M)->∃b:List Wd,b.map (·.1)=a
 | [],_=>⟨[],rfl⟩
 |k::a,h=>by have⟨b,c⟩:=Ii a fun j d=>h j (aAR _ d);exact⟨⟨k,h k (aAQ ..)⟩::b,by rw[aBl,c]⟩
def C8{W:WR}{base g cap:Nat}{a:K4}{b:List Wd}(i:b.map (·.1)=a)(h:W.ownsRow base 41 4 (.slice (some ⟨g,0,none⟩) a.length cap) a.length (gE a)):HoldsK GM 4 W g 0 b.toArray:=by
 have n:b.length=a.length:=by rw[<-i];simp
 intro j f;rw[size_flatK] at f;have d:j<a.length*4:=by rw[<-n];simpa using f
 rw[aAM];refine⟨?_,h.frozenAt j⟩;rw[h.cellAt j d,get_flatK _ _ _ _ f];have k:j / 4<b.length:=oM
 have l:a[j / 4]?=some (b[j / 4]).1:=by rw[<-i];simp[k]
 have:=KJ a (j / 4) _ l (j % 4) (aBE _ dC);have e:j / 4*4+j % 4=j:=oM
 rw[e] at this;rw[this];have m:(b.toArray[j / 4]!:Wd)=b[j / 4]:=by simp[k]
 rw[m];show(wc _)[j % 4]?=some ((wc _)[j % 4]!);have h4:j % 4<4:=aBE _ dC;generalize j % 4=c at h4;rcases c with _|_|_|_|c<;>first|rfl|omega
structure il (w w':WR)(l:List (Nat×vZ))(a:yj)(ks:K4):Prop where
 perm:ks.Perm (l.map (·.1))
 up:Up (fun k:Nat=>(k:Int)) ks
 cells:ks=[]\/∃g,a=some ⟨g,0,none⟩/\w.heap.size<=g/\g<w'.heap.size/\∀i k,ks[i]?=some k->cI w' g (i*4) (wc k)
 below:Below w.heap.size w w'
def im(P b:Nat)(l:List (Nat×vZ))(hl:∀p∈l,p.1<M)(t:l.length<1000000000)(lY:(l.map (·.1)).Nodup)(w:WR)(V:P<w.heap.size)(hm:w.cell? ⟨P,0,none⟩=some (.map (some b)))(hM:cR wd w b l):
  Cq 161 #[.func (.func 204) #[] #[pq P 0],.func (.func 163) #[] #[]] w fun e w'=>∃(a:yj) (cap:Nat) (ks:K4),e=.returned (.slice a ks.length cap)/\il w w' l a ks:=by
 have J:=(callsIn_wide (n:=3)).1 (WO 3 oM 204 #[pq P 0] (enters_of (qz func204) kR rfl) _ l.length t w (GL 1 oM P b l hl w V hm hM));go_enter (qz func161),Tryz.ntmps161;go_wp2_with fail;refine J.mono ?_;rintro e w1 ⟨v,h,rfl,f,s,C⟩;have H:∀k∈h,k<M:=fun k D=>by obtain⟨p,O,rfl⟩:=aAJ.1 (f.mem_iff.1 D);exact hl p O
 have A:Shut (h.length=l.length):=by have:=f.length_eq;simpa[Shut] using this
 have a7:h.length<1000000000:=by rw[A.out];exact t
 rcases s.2 with⟨rfl,h0⟩| ⟨g,cap,a8,rfl,a1,a6,aa,a9,_,_⟩
 .have Y:h=[]:=aAZ h0;subst Y;have W:Cq 203 #[.slice none 0 0,.func (.func 163) #[] #[]] w1 fun e w'=>e=.returned (.tuple #[])/\w'=w1:=AnyF.slices_SortFunc_none Yl none 0 _ w1;go_wp2_with fail;refine W.mono ?_;rintro e w2 ⟨rfl,rfl⟩;go_wp2_with fail;simp[bodyPost,results,Tryz.results161,go_sem];exact⟨none,0,[],sI,f,List.Pairwise.nil,.inl rfl,C⟩
 .obtain⟨B,y⟩:=Ii h H;have a0:B.length=h.length:=by rw[<-y];simp
  have X:=C8 y s;have F:g<w1.heap.size:=(aAu.1 a6).1;have z:=AnyQ.slices_SortFunc Yl 4 (fun w=>(aR 41 w).trans (Tryz.isAgg41 w)) (fun w=>(aN 41 w).trans (Tryz.sizeOf41 w)) GM (fun _=>rfl) (fun x v hv=>by simp only[GM,wc,aAx,aAC,or_false] at hv;rcases hv with rfl|rfl|rfl|rfl<;>rfl) Ih Ni 163 #[] g 0 cap B.toArray w1 (enters_of (qz func163) kR rfl) (ik _ _ _ _) X F (by simp;exact oM);have E:B.toArray.size=h.length:=by simpa using a0
  rw[E] at z;change Cq 203 _ _ _ at z;go_wp2_with fail;refine z.mono ?_;rintro e w2 ⟨rfl,d,n,Q,O,hs,r⟩;have q:d.toList.Perm B:=by
   have o:=O.2.2;have R:d.size=h.length:=by rw[O.1];exact E
   rw[<-R] at o;have h3:B.toArray.extract 0 d.size=B.toArray:=by rw[R,<-E];simp
   rw[h3] at o;simpa using o
  have m:d.size=h.length:=by rw[O.1];exact E
  have N:(d.toList.map (·.1)).Perm h:=by rw[<-y];exact q.map _
  have a3:Up (fun k:Nat=>(k:Int)) (d.toList.map (·.1)):=by
   have L:(d.toList.map (·.1)).Nodup:=(N.trans f).nodup_iff.2 lY;refine aBg.2 fun i j K hj G=>?_;have a5:j<d.size:=by simpa using hj
   have T:i<d.size:=oM
   have o:=hs i j (aBa _) G oM;rw[Li] at o;have R:=aBg.1 L i j K hj G;simp only[aCN,Array.getElem_toList] at R⊢;have h3:d[j]! =d[j]:=getElem!_pos d j a5;have h4:d[i]! =d[i]:=getElem!_pos d i T;rw[h3,h4] at o;have:=of_decide_eq_false o;exact oM
  have ac:(d.toList.map (·.1)).length=h.length:=by simp[m]
  have I:=holdsK_sortWorldK_c GM 4 w1 g 0 B.toArray d n Q X F (by rw[m,E]);have Z:Bw w w2:=by
   rw[r];refine C.trans ⟨rfl,rfl,rfl,size_sortWorldK_c GM 4 w1 g 0 n d Q,fun k D=>?_⟩;have a2:k<w1.heap.size:=aAy D C.size;have S:g≠k:=oM
   show((putRowK GM 4 (Sort.ahead w1 n) g 0 d).heap++Q)[k]?=_;have U:k<(putRowK GM 4 (Sort.ahead w1 n) g 0 d).heap.size:=by simpa[putRowK,putRow,mapBlock,Sort.ahead] using a2
   rw[Array.getElem?_append_left U];show(w1.heap.modify g _)[k]?=_;rw[aCq,if_neg S]
  rw[<-r] at I;have a4:g<w2.heap.size:=by have:=size_sortWorldK_c GM 4 w1 g 0 n d Q;rw[<-r] at this;exact oM
  clear r X;go_wp2_with fail;simp[bodyPost,results,Tryz.results161,go_sem];refine⟨some ⟨g,0,none⟩,cap,d.toList.map (·.1),?_,N.trans f,a3,.inr ⟨g,rfl,a1,a4,fun i k D c u hu=>?_⟩,Z⟩
  .simp[m]
  .have K:i<d.size:=by have:=(aAO.1 D).1;simpa using this
   have hc:c<4:=(aAO.1 hu).1;have o:=(I.cell K hc).1;rw[aAM] at o;rw[o];have h3:d[i]! =d[i]:=getElem!_pos d i K;have h4:d[i].1=k:=by have:=D;simp[K] at this;exact this
   rw[h3];show some ((wc d[i].1)[c]!)=some u;rw[h4];have h5:=(aAO.1 hu).2;rw[<-h5,getElem!_pos (wc k) c hc];rfl
end
def zL(a:List (Nat×Nat)):(slotL a).map (·.1)=a.map (·.1):=by unfold slotL;rw[aAS];rfl
theorem DO:∀(a:List (Nat×Nat)) (i:Nat) (p:Nat×Nat),(a.map (·.1)).Nodup->p∈a->∃j,cZ p.1 (slotL a) i=some (j,wd p.2)
 | [],_,_,_,h=>by cases h
 |q::a,i,p,e,h=>by
  have b:=aBt.1 e;show ∃j,cZ p.1 ((q.1,wd q.2)::slotL a) i=_;unfold cZ;by_cases c:p.1=q.1
  .rcases aAx.1 h with rfl|h
   .exact⟨i,by rw[if_pos rfl]⟩
   .exact absurd (by have d:=aAI (f:=fun x:Nat×Nat=>x.1) h;rw[c] at d;exact d) b.1
  .rcases aAx.1 h with rfl|h
   .exact absurd rfl c
   .rw[if_neg c];exact DO a (i+1) p b.2 h
def C9:(zeroValue 41).run zQ.prog=fun w=>.ok (wd 0) w:=by
 funext w;have e:wd 0=.agg wz:=by simp[wd,aI]
 rw[e,aK];exact zeroValue41 w
def WQ(b:List (Nat×Nat))(pa ms:Nat)(w:WR)(b8:w.cell? ⟨pa,7,none⟩=some (.map (some ms)))(b0:pa<w.heap.size)(hM:cR wd w ms (slotL b))(hk:∀p∈b,p.1<M/\p.2<M)(lY:(b.map (·.1)).Nodup)(bs:b.length<100000000):
  Cq 105 #[pq pa 0] w fun e w'=>∃v:SV,e=.returned (.slice v.a v.n v.c)/\w'.ownsRow w.heap.size 72 8 (.slice v.a v.n v.c) b.length (eW (XW (fun q=>(q.1:Int)) b))/\Bw w w':=by
 obtain⟨b7,a8,S,R,P,I,a0⟩:=Ab;have a7:=mS Ig hM.FL;have ac:(slotL b).length=b.length:=by simp[slotL]
 rw[ac] at a7;obtain⟨w1,bz,y,x⟩:=run_make_own (P:=zQ.prog) w w.heap.size 50 72 b7 a8 8 ((aC 50).trans Tryz.underlying50) S R P .i64 .i64 b.length (by rw[I];exact oM) (by simp[maxLen];exact oM) lR;have A:Bw w w1:=⟨x.os,x.tape,x.output,x.size,fun k hk=>x.block k hk sI⟩;have bv:=(A.cell (p:=⟨pa,7,none⟩) b0).trans b8;have bt:w.heap.size<w1.heap.size:=iJ y _ rfl;have cK:=fun mb W=>(callsIn_wide (n:=5)).1 (C2 5 mb W);go_enter (qz func105),Tryz.ntmps105;go_wp2_with fail;refine(cK (some ms) w1).mono ?_;rintro e w2 ⟨rfl,B⟩;have D:Below w1.heap.size w1 w2:=by rw[B];exact ba
 have bc:w2.cell? ⟨w1.heap.size,0,none⟩=some (.map (some ms)):=by rw[B,World.cell?_alloc_new];rfl
 have bd:w1.heap.size<w2.heap.size:=by rw[B];simp
 have bm:=(hM.below A).below D;have bj:=im w1.heap.size ms (slotL b) (fun p hp=>by obtain⟨q,hq,rfl⟩:=aAJ.1 hp;exact(hk q hq).1) (by rw[ac];exact oM) (by rw[zL];exact lY) w2 bd bc bm;have T:=dI y D;clear B;go_wp2_with fail;refine bj.mono ?_;rintro e w3 ⟨a,cap,Q,rfl,hS⟩;have u:=hS.perm;rw[zL] at u;obtain⟨m,E⟩:∃m,XW (fun q:Nat×Nat=>(q.1:Int)) b=m:=⟨_,rfl⟩;have a1:m.Perm b:=by rw[<-E];exact jY _ _
 have H:Q=m.map (·.1):=by
  refine pF (f:=fun k:Nat=>(k:Int)) (u.trans (a1.map _).symm) hS.up ?_;refine aBw.2 ?_;rw[<-E];refine GF (fun q:Nat×Nat=>(q.1:Int)) b ?_;have:b.map (fun q=>(q.1:Int))=(b.map (·.1)).map (fun k:Nat=>(k:Int)):=by rw[aAS];rfl
  rw[this];exact aBw.2 (lY.imp fun h e=>h (by exact_mod_cast e))
 have o:m.length=b.length:=a1.length_eq;have b3:Shut (Q.length=b.length):=by rw[H];simpa[Shut] using o
 have ar:Bw w w3:=(A.trans (D.mono A.size)).trans (hS.below.mono (by have:=A.size;have:=D.size;exact oM));have n:=dI T hS.below;rw[b3.out];rcases hS.cells with he| ⟨g,rfl,c6,bg,bh⟩
 .have al:b=[]:=by have:=b3.out;rw[he] at this;exact aAZ this.symm
  have bn:m=[]:=aAZ (by rw[o,al];rfl);have a5:b.length=0:=by rw[al];rfl
  rw[a5] at n⊢;go_wp2_with fail;go_loopw [3,19] (fun lv i W=>lv=.slice (some ⟨w.heap.size,0,none⟩) 0 0/\i=vI 0/\W=w3) (fun _ _ _=>0)
  case atStart=>exact⟨rfl,rfl,rfl⟩
  case round=>
   obtain⟨rfl,rfl,rfl⟩:=hrel;go_wp2_with fail;simp[bodyPost,results,Tryz.results105,go_sem];refine⟨⟨some ⟨w.heap.size,0,none⟩,0,0⟩,⟨rfl,rfl,rfl⟩,?_,ar⟩;rw[E,bn,a5];exact n
 .go_wp2_with fail;go_loopw [3,19] (fun lv i W=>∃(k:Nat) (vL:SV),lv=.slice vL.a vL.n vL.c/\i=vI k/\k<=b.length/\Bw w W/\(∀i d,Q[i]?=some d->cI W g (i*4) (wc d))/\W.ownsRow w.heap.size 72 8 (.slice vL.a vL.n vL.c) k (eW (m.take k))/\vL.blk≠some g/\g<W.heap.size) (fun _ i _=>b.length - (Go.RowKit.intOf i).toNat)
  case atStart=>exact⟨0,⟨some ⟨w.heap.size,0,none⟩,0,b.length⟩,rfl,rfl,aBa _,ar,bh,n,(by intro e;have:=aAv e;show False;have h2:w.heap.size=g:=this;exact oM),bg⟩
  case round=>
   obtain⟨k,vL,rfl,rfl,bw,hb,ad,C,a4,bl⟩:=hrel;by_cases bx:k<b.length
   .have br:(k:Int)<(b.length:Int):=oM
    have a3:k<m.length:=oM
    have b4:Q[k]?=some m[k].1:=by rw[H];simp[a3]
    have s:=ad k _ b4;have N:m[k]∈b:=a1.mem_iff.1 (aBf a3);obtain⟨bi,c9⟩:=hk _ N;obtain⟨jf,a2⟩:=DO b 0 m[k] lY N;have U:m.take (k+1)=m.take k++[m[k]]:=(aCh a3).symm;generalize c7:m[k]=p at*;have c0:=s 0 _ rfl;have c1:=s 1 _ rfl;have c2:=s 2 _ rfl;have c3:=s 3 _ rfl;rw[aBd] at c0;have V:∀W,cR wd W ms (slotL b)->(Instr.lookup 133 (.map (some ms)) (wd p.1) false).run zQ.prog W=.ok (wd p.2) W:=fun W f=>by have:=mQ gT Ig (z:=wd 0) f.FL bi (fun q hq=>by obtain⟨r,hr,rfl⟩:=aAJ.1 hq;exact(hk r hr).1) (fun w=>by rw[C9]);rw[a2] at this;exact this
    have Z:Bw wr (wr.alloc (.cells (wc p.1).toArray 41)):=ba;have hx:=fW wr (wc p.1) 41;have Y:wr.heap.size<(wr.alloc (.cells (wc p.1).toArray 41)).heap.size:=sI
    have b5:=hb.trans (Z.mono hb.size);have L:∀i d,Q[i]?=some d->cI (wr.alloc (.cells (wc p.1).toArray 41)) g (i*4) (wc d):=fun i d h=>(ad i d h).below Z;have J:=dI C Z;have a9:=iJ C;go_wp2_with fail;change Code.wp _ _ _ _ (wr.alloc (.cells (wc p.1).toArray 41));generalize wr.alloc (.cells (wc p.1).toArray 41)=W1 at hx Y b5 L J⊢;generalize c5:wr.heap.size=xb at hx Y a9 bl⊢;refine rq (fun W=>Bw w W/\cI W xb 0 (wc p.1)) ⟨b5.drew,hx.below bR.drew⟩ fun c=>?_;refine t1 0 c ?_;refine tD 1 24 (wd p.1) (fun W f=>?_) c ?_
    .have k0:=f.2 0 _ rfl;have k1:=f.2 1 _ rfl;have k2:=f.2 2 _ rfl;have k3:=f.2 3 _ rfl;simp only[aAM] at k0 k1 k2 k3;clear f c;unfold wd;go_simp
    refine t3 2 3 4 c ?_;refine tV 5 (fun _ f=>(f.1.cell (p:=⟨pa,7,none⟩) b0).trans b8) c ?_;refine tD 6 29 (wd p.1) (fun W f=>?_) c ?_
    .have k0:=f.2 0 _ rfl;have k1:=f.2 1 _ rfl;have k2:=f.2 2 _ rfl;have k3:=f.2 3 _ rfl;simp only[aAM] at k0 k1 k2 k3;clear f c;unfold wd;go_simp
    refine tD 7 30 (wd p.2) (fun W f=>?_) c ?_
    .have k7:=V W (hM.below f.1);clear f c V;go_simp
    refine tD 8 31 (.agg (bX p).toArray) (fun W f=>?_) c ?_
    .clear f c V;unfold wd bX;go_simp
    have t:W1.drew.ownsRow w.heap.size 72 8 (.slice vL.a vL.n vL.c) k (eW (m.take k)):=dI J bR.drew;have z:∀i d,Q[i]?=some d->cI W1.drew g (i*4) (wc d):=fun i d h=>(L i d h).below bR.drew;have bf:xb<W1.drew.heap.size:=Y;obtain⟨zB,a6⟩:∃zB,W1.drew.heap.size=zB:=⟨_,rfl⟩;generalize W1.drew=O at c t z bf a6⊢;refine rA 9 fun K hK=>?_;unfold bX;go_simp;have G:Bw O (O.alloc (.cells (bX p).toArray 72)):=ba;have b2:=fW O (bX p) 72;refine hK.out _ (O.alloc (.cells (bX p).toArray 72)) ⟨c.1.trans (G.mono c.1.size),c.2.below G⟩ fun c=>?_;replace t:=dI t G;replace z:∀i d,Q[i]?=some d->cI (O.alloc (.cells (bX p).toArray 72)) g (i*4) (wc d):=fun i d h=>(z i d h).below G;have aa:(O.alloc (.cells (bX p).toArray 72)).heap.size=O.heap.size+1:=sI
    generalize O.alloc (.cells (bX p).toArray 72)=W3 at c t z b2 aa⊢;refine rA 10 fun K hK=>?_;rw[if_pos rI];refine wp_append_lies W3 _ _ 50 rfl w.heap.size 72 b7 a8 8 64 ((aC 50).trans Tryz.underlying50) S R P I a0 oM _ _ _ rfl t ⟨zB,0,none⟩ 1 1 (bX p) rfl rfl (fun j v hj=>by rw[Addr.add_mid,<-a6];exact b2 j v hj) (fun v hv=>CN [p] v (by rw[eW,eW,aCb];exact hv)) oM (by simp[maxLen];exact oM) oM c.1.size _ rfl ?_;intro g2 n2 W4 X l F bo;have b6:Bw w W4:=c.1.trans (nY l (nX t) c.1.size);have b1:vL.blk≠some xb:=fun e=>by have:=a9 _ e;exact oM
    have bb:cI W4 xb 0 (wc p.1):=fun j v hj=>(l.cell_far ⟨xb,0+j,none⟩ (by show xb<_;exact oM) (fun e=>b1 e.symm)).trans (c.2 j v hj);have s:∀i d,Q[i]?=some d->cI W4 g (i*4) (wc d):=fun i d h j v hj=>(l.cell_far ⟨g,i*4+j,none⟩ (by show g<_;exact oM) (fun e=>a4 e.symm)).trans (z i d h j v hj);refine hK.out _ _ ⟨b6,bb⟩ fun c=>?_;refine t1 11 c ?_;refine dn ?_;go_wp2_with fail;refine⟨⟨k+1,⟨some ⟨g2,0,none⟩,k+1,n2⟩,rfl,by go_num,oM,b6,s,?_,?_,?_⟩,?_⟩
    .rw[U,rY,eW,eW,aCb];exact X
    .intro e;have e':g2=g:=aAv e;rcases F with F|F
     .exact a4 (by rw[<-e'];exact F)
     .omega
    .have:=l.size;exact oM
    .simp[Go.RowKit.intOf];exact oM
   .have b9:k=b.length:=oM
    subst b9;go_wp2_with fail;simp[bodyPost,results,Tryz.results105,go_sem];refine⟨vL,⟨rfl,rfl,rfl⟩,?_,hb⟩;rw[<-o,aCa] at C;rw[E,<-o];exact C
def zM(d:bF)(mk:SV)(ms:Nat):K3:=[.int .u64 (aI d.bal 0),.int .u64 (aI d.bal 1),.int .u64 (aI d.bal 2),.int .u64 (aI d.bal 3),.int .i64 d.nonce,.string d.code,.slice mk.a mk.n mk.c,.map (some ms)]
structure zN (w:WR)(pa:Nat)(d:bF):Prop where
 ex:∃mk ms,cI w pa 0 (zM d mk ms)/\cR wd w ms (slotL d.bE)
 key:∀p∈d.bE,p.1<M/\p.2<M
 nd:(d.bE.map (·.1)).Nodup
 num:d.bE.length<100000000
def zN.lt(h:zN w pa d):pa<w.heap.size:=by
 obtain⟨mk,ms,b,_⟩:=h.ex;have:=b 0 _ rfl;simp only[World.cell?] at this;cases a:w.heap[pa]? with
 |none=>rw[aAM] at this;simp only[a] at this;cases this
 |some o=>exact(aAu.1 a).1
def zN.below(h:zN w pa d)(a:Bw w w'):zN w' pa d:=by obtain⟨mk,ms,c,b⟩:=h.ex;exact⟨⟨mk,ms,c.below a,b.below a⟩,h.key,h.nd,h.num⟩
def Da(d:bF)(pa:Nat)(w:WR)(h:zN w pa d):
  Cq 65 #[pq pa 0,vI d.id] w fun e w'=>∃v:SV,e=.rt (.agg (aV (sK d) v).toArray)/\w'.ownsRow w.heap.size 72 8 (.sl v.a v.n v.c) (sK d).bE.length (eW (sK d).bE)/\Bw w w':=by
 have C:=h.lt;have⟨mk,ms,A,S⟩:=h.ex;have p:=h.key;have lY:=h.nd;have y:=h.num;have D:(sK d).bE.length=d.bE.length:=(jY _ _).length_eq;rw[D];go_enter (qz func65),ntmps65
 go_upto_region 1 with fail
 obtain⟨o,ho⟩:∃o,o=w.heap.size:=⟨_,rfl⟩;have z:Bw w (w.alloc (.ce #[vI 0,vU 0,vU 0,vU 0,vU 0,vI 0,.string ⟨#[]⟩,.sl none 0 0] 52)):=ba;have s:(w.alloc (.ce #[vI 0,vU 0,vU 0,vU 0,vU 0,vI 0,.string ⟨#[]⟩,.sl none 0 0] 52)).there w.heap.size 0 8:=UK w #[vI 0,vU 0,vU 0,vU 0,vU 0,vI 0,.string ⟨#[]⟩,.sl none 0 0] 52;have u:w.heap.size<(w.alloc (.ce #[vI 0,vU 0,vU 0,vU 0,vU 0,vI 0,.string ⟨#[]⟩,.sl none 0 0] 52)).heap.size:=sI
 generalize w.alloc (.cells #[.int .i64 0,.int .u64 0,.int .u64 0,.int .u64 0,.int .u64 0,.int .i64 0,.string ⟨#[]⟩,.slice none 0 0] 52)=F at z s u⊢;refine rq (fun W=>Bw w W) z.drew fun a=>?_;refine t4 0 1 2 3 a ?_;refine tD 4 9 (wd d.bal) (fun W f=>?_) a ?_
 .have r:cI W pa 0 (zM d mk ms):=A.below f;have U:=r 0 _ rfl;have k1:=r 1 _ rfl;have Y:=r 2 _ rfl;have T:=r 3 _ rfl;simp only[aAM] at U k1 Y T;clear r f a;unfold wd;go_simp
 refine t3 5 6 7 a ?_;refine tD 8 13 (vI d.nonce) (fun W f=>?_) a ?_
 .have I:=(A.below f) 4 _ rfl;simp only[aAM] at I;clear f a;go_simp
 refine t3 9 10 11 a ?_;refine tD 12 17 (.string d.code) (fun W f=>?_) a ?_
 .have I:=(A.below f) 5 _ rfl;simp only[aAM] at I;clear f a;go_simp
 refine t1 13 a ?_;have t:F.drew.there w.heap.size 0 8:=s;have l:w.heap.size<F.drew.heap.size:=u;generalize F.drew=X at a t l⊢;have G:=WQ d.bE pa ms X (by have:=(A.below a) 7 _ rfl;rw[aAM] at this;exact this) (aAy C a.size) (S.below a) p lY y;refine rA 14 fun K E=>?_;go_simp;apply G.mono;rintro e k ⟨v,rfl,i,n⟩;go_wp2_with fail;refine E.out _ _ (a.tr (n.mono a.size)) fun a=>?_;refine tD 15 20 (.agg (aV d v).toArray) (fun W f=>?_) a ?_
 .clear f a;unfold wd aV;go_simp
 refine rA 16 fun K E=>?_;rw[if_pos rI];have x:k.there w.heap.size 0 8:=fun j H=>by rw[n.cell (p:=(ad w.heap.size (0+j))) l,n.frozen (p:=(ad w.heap.size (0+j))) l];exact t j H
 refine wp_store_mid 52 _ _ rfl w.heap.size 0 (aV d v).toArray rfl rfl x kR (by simp[aV,Value.oneCell']) ?_;have m:Bw w (k.setCells w.heap.size 0 (aV d v)):=nV _ _ _ _ _ _ a lR;refine E.out _ _ m fun a=>?_;refine dn ?_;have b:cI (k.setCells w.heap.size 0 (aV d v)) w.heap.size 0 (aV d v):=World.rangeAt_setCells_same _ _ _ _ fun j H=>x j H;have B:v.blk≠some w.heap.size:=fun e=>by have:=nX i _ e;omega
 have c:(k.setCells w.heap.size 0 (aV d v)).ownsRow w.heap.size 72 8 (.sl v.a v.n v.c) d.bE.length (eW (XW (fun q=>(q.1:Int)) d.bE)):=IV (iK i (ZY (aV d v) 0 k (QL k (some w.heap.size))) (fun g Z V=>B (Z.tr V.symm))) oM;change Exit.then _ _ _ _ (k.setCells w.heap.size 0 (aV d v));generalize k.setCells w.heap.size 0 (aV d v)=W4 at b c m⊢;have J:=b 0 _ rfl;have R:=b 1 _ rfl;have O:=b 2 _ rfl;have M:=b 3 _ rfl;have L:=b 4 _ rfl;have P:=b 5 _ rfl;have Q:=b 6 _ rfl;have N:=b 7 _ rfl;simp only[aAM] at J R O M L P Q N;go_wp2_with fail;simp[bodyPost,results,results65,go_sem,J,R,O,M,L,P,Q,N];exact⟨v,rfl,c,m⟩
section
open Go.Maps Go.Sort Go.Shelf
def Pr:zQ.prog.underlying 124=some (.map 3 129):=(aC 124).tr underlying124
def Ij{n:Nat}{l:List (Int×vZ)}(h:cR (fun x:Int=>Value.int .i64 x) w n l)(lY:(l.map (·.1)).Nodup)(u:∀p∈l, -9223372036854775808<=p.1/\p.1<=9223372036854775807)(B:l.length<=maxLen):
  ∃D0:DataW Unit,w.ownsMap zQ.prog 3 (fun _=>some (.nil,[])) n l.length D0/\(Go.intKeys D0).Perm (l.map (·.1))/\Maps.size D0=l.length:=by
 obtain⟨c,clock,s,q,r⟩:=h;have i:c.toList.length=l.length:=by have:=congrArg List.length q;simpa using this
 have a:c.toList.map (·.key)=(l.map (·.1)).map (fun x:Int=>Value.int .i64 x):=by
  have:=congrArg (List.map Prod.fst) q;rw[List.map_map,List.map_map] at this;rw[List.map_map];exact this
 have b:∀e∈c.toList,∃x,e.key=.int .i64 x/\ -9223372036854775808<=x/\x<=9223372036854775807:=fun e f=>by
  have:e.key∈c.toList.map (·.key):=List.mem_map_of_mem f;rw[a] at this;obtain⟨x,d,m⟩:=List.mem_map.1 this;obtain⟨p,t,rfl⟩:=List.mem_map.1 d;exact⟨_,m.symm,u p t⟩
 have g:IntKind.i64.min= -9223372036854775808:=dC
 have j:IntKind.i64.max=9223372036854775807:=dC
 have k:∀e∈c.toList,∀x,e.key=.int .i64 x->Go.WideElems.rd zQ.prog 3 (fun _=>some (DataW.nil,[])) e=some (.int .i64 x,(DataW.nil:DataW Unit)):=fun e f x d=>by
  obtain⟨y,o,A,z⟩:=b e f;rw[d] at o;cases o;unfold Go.WideElems.rd;rw[d,Maps.keyOf_int_mk u3 (by simp[Lit.wf,g,j];exact oM)];rfl
 refine⟨_,⟨c,clock,s,⟨(by rw[<-Array.length_toList];exact oM),⟨r.1,r.2,?_⟩,fun e f=>?_⟩,(by rw[<-Array.length_toList];exact oM),rfl⟩,?_,?_⟩
 .rw[a];exact List.pairwise_map.2 (lY.imp fun h e=>h (by cases e;rfl))
 .obtain⟨x,d,_⟩:=b e f;exact⟨_,k e f x d⟩
 .show(((c.toList.map (Go.WideElems.rg zQ.prog 3 _)).foldr DataW.insert []).map fun p=>Go.intOf p.1).Perm _;refine((Go.WideShapes.sorted_perm _).map _).trans ?_;rw[List.map_map];have:c.toList.map ((fun p:Lit×DataW Unit=>Go.intOf p.1) ∘ Go.WideElems.rg zQ.prog 3 (fun _=>some (DataW.nil,[])))=l.map (·.1):=by
   have m:(c.toList.map (·.key)).map (fun v=>match v with|.int _ x=>x|_=>0)=l.map (·.1):=by
    rw[a,List.map_map];exact List.map_id _
   rw[<-m,List.map_map];refine List.map_congr_left fun e f=>?_;obtain⟨x,d,_⟩:=b e f;simp only[Function.comp];unfold Go.WideElems.rg;rw[k e f x d,d];rfl
  rw[this]
 .show((c.toList.map (Go.WideElems.rg zQ.prog 3 _)).foldr DataW.insert []).length=_;rw[length_sorted,List.length_map,i]
def Db(m:Nat):AnyZI.SortsIn zQ.prog Yo Fence.wide m:=
 ⟨fun blk off cap c W d a b=>callsIn_wide.2 (AnyM.slices_Sort_int Yp blk off cap c W d a b),
  fun p cap W=>callsIn_wide.2 (AnyM.slices_Sort_int_none Yp p cap W)⟩
def Dc(a:Option Nat)(W:WR):Cq 64 #[.map a] W fun e w'=>e=.rt (.func (.func 104) #[] #[pq W.heap.size 0])/\w'=W.alloc (.ce #[.map a] 124):=
 (callsIn_wide (n:=5)).1 (AnyZI.keys_in Yn Fence.wide 5 trivial rfl a W)
def iq(g b:Nat)(l:List (Int×vZ))(w:WR)(r:g<w.heap.size)(F:w.cell? ⟨g,0,none⟩=some (.map (some b)))(C:cR (fun x:Int=>Value.int .i64 x) w b l)(lY:(l.map (·.1)).Nodup)(E:∀p∈l, -9223372036854775808<=p.1/\p.1<=9223372036854775807)(H:l.length<1000000000):
  Calls zQ.prog 63 #[.func (.func 104) #[] #[pq g 0]] w fun e w'=>∃(v:vZ) (q:List Int),e=.returned v/\q.Perm (l.map (·.1))/\Up id q/\w'.ownsRow w.heap.size 3 1 v q.length (q.map fun x:Int=>Value.int .i64 x)/\Below w.heap.size w w':=by
 obtain⟨D0,k,f,n⟩:=Ij C lY E (by simp[maxLen];exact oM);have h:SeqGives Fence.wide 2 zQ.prog 104 #[pq g 0] encZ (fun d=>d.Perm (Go.intKeys D0)) (Maps.size D0) w:=
  AnyZI.keys_gives (ρ:=Ym) {Yn with} Fence.wide _ trivial rfl oM g b l.length D0 _ r F k
 have t:=AnyZI.sorted_in Z7 Fence.wide 5 trivial trivial trivial trivial rfl oM (Db _) (enters_of (qz func103) kR rfl) 104 #[pq g 0] trivial (enters_of (qz func104) kR rfl) _ _ (by rw[n];simp[maxLen];exact oM) (by rw[n];exact oM) w h;change CallsIn _ _ zQ.prog 63 _ _ _ at t;refine((callsIn_wide (n:=5)).1 t).mono ?_;rintro e w' ⟨v,d,rfl,G,o,_,D⟩;have z:(d.mergeSort fun x y=>decide (x<=y)).Perm (l.map (·.1)):=(List.mergeSort_perm _ _).trans (G.trans f);refine⟨v,d.mergeSort (fun x y=>decide (x<=y)),rfl,z,?_,by rw[List.length_mergeSort];exact o,D⟩;have u:(d.mergeSort fun x y=>decide (x<=y)).Pairwise fun a b=>decide (a<=b)=true:=List.pairwise_mergeSort (fun a b c u s=>by simp at*;exact oM) (fun a b=>by simp;exact oM) d;have s:(d.mergeSort fun x y=>decide (x<=y)).Nodup:=z.nodup_iff.2 lY;exact List.pairwise_iff_getElem.2 fun i j A B m=>by
  have I:=of_decide_eq_true (List.pairwise_iff_getElem.1 u i j A B m);have J:=List.pairwise_iff_getElem.1 s i j A B m;show(d.mergeSort _)[i]<(d.mergeSort _)[j];exact oM
def BP(L:List (bF×Nat)):List (Int×vZ):=L.map fun q=>(q.1.id,pq q.2 0)
def DR(L:List (bF×Nat)):(BP L).map (·.1)=L.map (·.1.id):=by unfold BP;rw[aAS];rfl
theorem KL:∀(L:List (bF×Nat)) (i:Nat) (q:bF×Nat),(L.map (·.1.id)).Nodup->q∈L->∃j,cZ q.1.id (BP L) i=some (j,pq q.2 0)
 | [],_,_,_,h=>by cases h
 |r::L,i,q,d,h=>by
  have a:=aBt.1 d;show ∃j,cZ q.1.id ((r.1.id,Value.pointer (some (ad r.2 0)))::BP L) i=_;unfold cZ;by_cases b:q.1.id=r.1.id
  .rcases aAx.1 h with rfl|h
   .exact⟨i,by rw[if_pos rfl]⟩
   .exact absurd (by have c:=aAI (f:=fun x:bF×Nat=>x.1.id) h;rw[b] at c;exact c) a.1
  .rcases aAx.1 h with rfl|h
   .exact absurd rfl b
   .rw[if_neg b];exact KL L (i+1) q a.2 h
structure zO (w:WR)(pl:Nat)(L:List (bF×Nat)):Prop where
 ex:∃ma,w.cell? ⟨pl,0,none⟩=some (.map (some ma))/\cR (fun x:Int=>Value.int .i64 x) w ma (BP L)
 lt:pl<w.heap.size
 acc:∀q∈L,zN w q.2 q.1
 nd:(L.map (·.1.id)).Nodup
 Qh:∀q∈L,0<=q.1.id/\q.1.id<=4294967295
 num:L.length<100000000
def mF(a:List bF):(told a).Perm (a.map sK):=jY _ _
def RR{a:List bF}(h:(a.map (·.id)).Nodup):Up (fun d:bF=>d.id) (told a):=GF _ _ (by rw[aAS];exact h)
def PE(L:List (bF×Nat))(pl:Nat)(w:WR)(h:zO w pl L):
  Cq 36 #[pq pl 0] w fun e w'=>∃v o,e=.returned (.slice v.a v.n v.c)/\Bw w w'/\dD w.heap.size w' v o/\o.map (·.1)=told (L.map (·.1)):=by
 obtain⟨a7,bc,K,Q,P,J,X⟩:=ZZ;obtain⟨ma,b8,hM⟩:=h.ex;have I:=h.lt;have ch:=h.num;have bd:(BP L).length=L.length:=by simp[BP]
 have al:=mS Pr hM.FL;rw[bd] at al;obtain⟨w1,cp,B,A⟩:=run_make_own (P:=zQ.prog) w w.heap.size 22 52 a7 bc 8 ((aC 22).trans Tryz.underlying22) K Q P .i64 .i64 L.length (by rw[J];exact oM) (by simp[maxLen];exact oM) lR;have D:Bw w w1:=⟨A.os,A.tape,A.output,A.size,fun k hk=>A.block k hk sI⟩;have cd:=(D.cell (p:=⟨pl,0,none⟩) I).trans b8;have ck:w.heap.size<w1.heap.size:=iJ B _ rfl;go_enter (qz func36),Tryz.ntmps36;go_wp2_with fail;refine(Dc (some ma) w1).mono ?_;rintro e w2 ⟨rfl,E⟩;have G:Below w1.heap.size w1 w2:=by rw[E];exact ba
 have br:w2.cell? ⟨w1.heap.size,0,none⟩=some (.map (some ma)):=by rw[E,World.cell?_alloc_new];rfl
 have bs:w1.heap.size<w2.heap.size:=by rw[E];simp
 have ca:=(hM.below D).below G;have c5:=iq w1.heap.size ma (BP L) w2 bs br ca (by rw[DR];exact h.nd) (fun p c=>by obtain⟨q,hq,rfl⟩:=aAJ.1 c;have:=h.Qh q hq;show _<=q.1.id/\q.1.id<=_;exact oM) (by rw[bd];exact oM);have V:=dI B G;clear E;go_wp2_with fail;refine c5.mono ?_;rintro e w3 ⟨vi,ks,rfl,s,c6,C,a9⟩;rw[DR] at s;obtain⟨T,hT⟩:∃T,told (L.map (·.1))=T:=⟨_,rfl⟩;have S:T.Perm ((L.map (·.1)).map sK):=by rw[<-hT];exact mF _
 have a8:(L.map (·.1)).map (·.id)=L.map (·.1.id):=by rw[aAS];rfl
 have bx:Up (fun d:bF=>d.id) T:=by rw[<-hT];exact RR (by rw[a8];exact h.nd)
 have t:ks=T.map (·.id):=by refine pF (f:=id) (s.trans ?_) c6 (aBw.2 bx);have:=S.map (·.id);rw[aAS,aAS] at this;exact this.symm
 have ac:T.length=L.length:=by have:=S.length_eq;simpa using this
 have bf:Shut (ks.length=L.length):=by rw[t];simpa[Shut] using ac
 have b7:Bw w w3:=(D.trans (G.mono D.size)).trans (a9.mono (by have:=D.size;have:=G.size;exact oM));have z:=dI V a9;have b1:∀W,W.ownsRow w.heap.size 52 8 (.slice (some ⟨w.heap.size,0,none⟩) 0 L.length) 0 []->dD w.heap.size W ⟨some ⟨w.heap.size,0,none⟩,0,L.length⟩ []:=fun W hW=>⟨hW,(fun p c=>by cases c),(fun p c=>by cases c),List.Pairwise.nil⟩;rcases C.2 with⟨rfl,h0⟩| ⟨g,cap,cm,rfl,cq,bh,_,_,_,_⟩
 .have bj:L.length=0:=by rw[<-bf.out];exact h0
  have bo:T=[]:=aAZ oM;have ar:dD w.heap.size w3 ⟨some ⟨w.heap.size,0,none⟩,0,0⟩ []:=by have:=b1 w3 z;rw[bj] at this;exact this
  go_wp2_with fail;go_loopw [3,19] (fun lv i W=>lv=.slice (some ⟨w.heap.size,0,none⟩) 0 0/\i=vI 0/\W=w3) (fun _ _ _=>0)
  case atStart=>exact⟨rfl,rfl,rfl⟩
  case round=>
   obtain⟨rfl,rfl,rfl⟩:=hrel;go_wp2_with fail;simp only[bodyPost,results,Tryz.results36,go_sem];simp;refine⟨⟨some ⟨w.heap.size,0,none⟩,0,0⟩,sI,b7,[],ar,?_⟩;rw[hT,bo];rfl
 .have b6:∀i x,ks[i]?=some x->w3.cell? ⟨g,i,none⟩=some (vI x):=fun i x hx=>by rw[C.cellAt i (by have:=(aAO.1 hx).1;exact oM),aBy,hx];rfl
  have bt:g<w3.heap.size:=(aAu.1 bh).1;rw[bf.out];clear C bh;go_wp2_with fail;go_loopw [3,19] (fun lv i W=>∃(k:Nat) (vL:SV) (o:List (bF×SV)),lv=.slice vL.a vL.n vL.c/\i=vI k/\k<=L.length/\Bw w W/\(∀i x,ks[i]?=some x->W.cell? ⟨g,i,none⟩=some (vI x))/\dD w.heap.size W vL o/\o.map (·.1)=T.take k/\vL.blk≠some g/\g<W.heap.size) (fun _ i _=>L.length - (Go.RowKit.intOf i).toNat)
  case atStart=>exact⟨0,⟨some ⟨w.heap.size,0,none⟩,0,L.length⟩,[],rfl,rfl,aBa _,b7,b6,b1 _ z,rfl,(by intro e;have e':w.heap.size=g:=aAv e;exact oM),bt⟩
  case round=>
   obtain⟨k,vL,o,rfl,rfl,cl,U,a0,l,a2,aa,c9⟩:=hrel;by_cases cn:k<L.length
   .have cc:(k:Int)<(L.length:Int):=oM
    have a6:k<T.length:=oM
    have R:ks[k]?=some T[k].id:=by rw[t];simp[a6]
    have hc:=a0 k _ R;have O:=S.mem_iff.1 (aBf a6);obtain⟨d,hd,a3⟩:=aAJ.1 O;obtain⟨q,hq,rfl⟩:=aAJ.1 hd;have Y:T.take (k+1)=T.take k++[sK q.1]:=by rw[a3];exact(aCh a6).symm
    have N:T[k].id=q.1.id:=by rw[<-a3];rfl
    rw[N] at hc;have c7:=US a0;clear a3 O hd N R a0 t b6;obtain⟨jf,a5⟩:=KL L 0 q h.nd hq;have ad:=hM.below U;have bn:(Instr.lookup 124 (.map (some ma)) (vI q.1.id) false).run zQ.prog wr=.ok (pq q.2 0) wr:=by have:=mQ pg Pr (z:=.pointer none) ad.FL (k:=q.1.id) trivial (fun _ _=>trivial) fun w=>(aK 129 w).trans (Tryz.zeroValue129 w);rw[a5] at this;exact this
    have bb:=(U.cell (p:=⟨pl,0,none⟩) I).trans b8;have c0:=Da q.1 q.2 wr ((h.acc q hq).below U);have b0:=iJ l.own;go_wp2_with fail;refine c0.mono ?_;rintro e w4 ⟨v,rfl,Z,H⟩;have bl:=l.below H;have bg:aV (sK q.1) v=aV q.1 v:=rfl;rw[bg];have F:Bw w4 (w4.alloc (.cells (aV q.1 v).toArray 52)):=ba;have a1:=bl.below F;have b4:=dI Z F;have bw:=fW w4 (aV q.1 v) 52;have cb:=H.size;have b3:o.length=k:=by have:=congrArg List.length a2;simp at this;exact oM
    have m:=a1.own;rw[b3] at m;have n:=U.trans (H.mono U.size);clear bg;unfold aV;go_wp2_with (at_builtin;go_loud (refine wpList_append_lies _ rI _ _ 22 rI w.heap.size 52 a7 bc 8 88 ((aC 22).trans Tryz.underlying22) K Q P J X oM (.slice vL.a vL.n vL.c) k (eJ o) rI m ⟨w4.heap.size,0,none⟩ 1 1 (aV q.1 v) rI rfl (fun j v hj=>by rw[Addr.add_mid];exact bw j v hj) (fun u hu=>FH _ _ u hu) oM (by simp[maxLen];exact oM) oM (by have:=n.size;simp;exact oM) (w4.heap.size+1) sI ?_))
    intro g2 n2 w5 y a b b9;have bz:Bw w w5:=(n.trans (F.mono n.size)).trans (nY a (nX m) (by have:=n.size;simp;exact oM));have bv:∀i x,ks[i]?=some x->w5.cell? ⟨g,i,none⟩=some (vI x):=fun i x hx=>by refine(a.cell_far ⟨g,i,none⟩ (by show g<_;simp;exact oM) (fun e=>aa e.symm)).trans ?_;refine(F.cell (p:=⟨g,i,none⟩) (by show g<_;exact oM)).trans ?_;exact(H.cell (p:=⟨g,i,none⟩) c9).trans (c7.out i x hx)
    have a4:∀f,v.blk=some f->wr.heap.size<=f/\f<w4.heap.size:=fun f e=>⟨nX Z f e,iJ Z f e⟩;have bi:dD w.heap.size w5 ⟨some ⟨g2,0,none⟩,k+1,n2⟩ (o++[(sK q.1,v)]):=by
     refine⟨?_,fun p c=>?_,fun p c f M e2=>?_,?_⟩
     .have hl:(o++[(sK q.1,v)]).length=k+1:=by simp[b3]
      rw[hl,mU,eJ,eJ,aCb];exact y
     .rcases aAL.1 c with c|c
      .exact iK (a1.sl p c) a (a1.HI p c)
      .rw[aAB.1 c];exact iK (IV b4 U.size) a (fun f M e2=>by have:=(a4 f M).1;have:=b0 f e2;exact oM)
     .have e':g2=f:=aAv e2;rcases aAL.1 c with c|c
      .rcases b with b|b
       .exact l.HI p c f M (by rw[<-e'];exact b)
       .have:=iJ (l.sl p c) f M;exact oM
      .rw[aAB.1 c] at M;have h3:=a4 f M;rcases b with b|b
       .have:=b0 g2 b;exact oM
       .omega
     .refine List.pairwise_append.2 ⟨l.apart,List.pairwise_singleton _ _,fun p c r hr f M e2=>?_⟩;rw[aAB.1 hr] at e2;have:=iJ (l.sl p c) f M;have:=(a4 f e2).1;exact oM
    have b2:(SV.mk (some ⟨g2,0,none⟩) (k+1) n2).blk≠some g:=fun e=>by
     have e':g2=g:=aAv e;rcases b with b|b
     .exact aa (by rw[<-e'];exact b)
     .omega
    have c1:g<w5.heap.size:=by have:=a.size;simp at this;exact oM
    have b5:(o++[(sK q.1,v)]).map (·.1)=T.take (k+1):=by rw[Y,aBc,a2];rfl
    clear y a b b9 bn ad bb hc;go_wp2_with fail;refine⟨⟨k+1,_,_,rfl,by go_num,oM,bz,bv,bi,b5,b2,c1⟩,?_⟩;simp[Go.RowKit.intOf];exact oM
   .have bm:k=L.length:=oM
    subst bm;go_wp2_with fail;simp only[bodyPost,results,Tryz.results36,go_sem];simp;refine⟨vL,sI,U,o,l,?_⟩;rw[a2,hT,<-ac,aCa]
def zP(L:List (bF×Nat))(f d:Nat)(w:WR)(j:w.cA f 0=some (pq d 0))(h:zO w d L):
  Cq 17 #[pq f 0] w fun e w'=>∃v a,e=.rt (.sl v.a v.n v.c)/\Bw w w'/\dD w.heap.size w' v a/\a.map (·.1)=told (L.map (·.1)):=by
 have b:=PE L d w h;go_enter (qz func17),ntmps17;go_wp2_with fail;apply b.mono;rintro e w1 ⟨v,a,rfl,g,i,c⟩;go_wp2_with fail;go_ret;exact⟨v,a,rfl,g,i,c⟩
end
end Go.Mark
