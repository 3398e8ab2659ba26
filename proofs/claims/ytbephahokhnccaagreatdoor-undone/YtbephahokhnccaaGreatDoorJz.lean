import Derived.Conc.Events
import Derived.KernelRfl
import Derived.Below
import Derived.IntWalk
import Derived.RowKit
import Derived.Deep.RegionHeld
set_option linter.all false
theorem Eq.tr.{u}{a:Sort u}{x y z:a}(h:x=y)(k:y=z):x=z:=h.trans k
namespace Go
abbrev Fg:=Exit->Act->Go.World->Prop
abbrev WU:=Go.World->Go.World->Array Event->Prop
abbrev WM:=Goroutine->Go.World->Prop
abbrev Fi:=Act->Go.World->Prop
abbrev K6:=Go.World->Prop
abbrev K7:=Int->Prop
abbrev yi:=Loc->Prop
abbrev Ff:=Array Go.Value
abbrev K3:=List Go.Value
abbrev K4:=List Nat
abbrev DQ:=Array Oper
abbrev eX:=List Frame
abbrev aA:=Array Event
abbrev yg:=Array Func
abbrev yj:=Option Addr
abbrev WR:=Go.World
abbrev vZ:=Go.Value
abbrev Fh:=TypeId
abbrev K2:=Goroutine
abbrev K5:=Program
abbrev Lp:=ByteArray
theorem sQ0{p:Prop}(h:p:=by simp;omega):p:=h
theorem sQ1{p:Prop}(h:p:=by simp[go_sem, *]):p:=h
theorem sQ3{p:Prop}(h:p:=by intros;kernel_rfl):p:=h
theorem sQ4{p:Prop}(h:p:=by simp[Act.eval];omega):p:=h
theorem sQ5{p:Prop}(h:p:=by dsimp only;omega):p:=h
theorem sQ6{p:Prop}(h:p:=by simp only[phi];omega):p:=h
theorem sQ7{p:Prop}(h:p:=by intro a b;cases a<;>cases b<;>kernel_rfl):p:=h
theorem sQ8{p:Prop}(h:p:=by intro a;cases a<;>kernel_rfl):p:=h
theorem sQ9{p:Prop}(h:p:=by simp only[maxLen];omega):p:=h
abbrev Obj.ce(c:Array Value)(t:TypeId):Obj:=.cells c t
abbrev World.hp(w:World):Array Obj:=w.heap
abbrev Ending.rt(v:Value):Ending:=.returned v
abbrev rU:Ending:=.returned (.tuple #[])
abbrev Value.sl(a:Option Addr)(n c:Nat):Value:=.slice a n c
abbrev World.sC(w:World)(p:Addr)(v:Value):World:=w.setCell p v
abbrev World.sA(w:World)(b o:Nat)(v:Value):World:=w.setCell ⟨b,o,none⟩ v
abbrev World.cA(w:World)(b o:Nat):Option Value:=w.cell? ⟨b,o,none⟩
abbrev ad(b o:Nat):Addr:=⟨b,o,none⟩
abbrev World.nc(w:World)(c:Array Value)(t:TypeId):World:=w.alloc (.cells c t)
abbrev zq32:Array Value:=#[.int .u8 0,.int .u8 0,.int .u8 0,.int .u8 0,.int .u8 0,.int .u8 0,.int .u8 0,.int .u8 0,.int .u8 0,.int .u8 0,.int .u8 0,.int .u8 0,.int .u8 0,.int .u8 0,.int .u8 0,.int .u8 0,.int .u8 0,.int .u8 0,.int .u8 0,.int .u8 0,.int .u8 0,.int .u8 0,.int .u8 0,.int .u8 0,.int .u8 0,.int .u8 0,.int .u8 0,.int .u8 0,.int .u8 0,.int .u8 0,.int .u8 0,.int .u8 0]
abbrev zq8:Array Value:=#[.int .u64 0,.int .u64 0,.int .u64 0,.int .u64 0,.int .u64 0,.int .u64 0,.int .u64 0,.int .u64 0]
abbrev rZ:Array Value:=#[.bool false,.int .i64 0,.int .i64 0,.slice none 0 0,.string ⟨#[]⟩]
abbrev iw(x:Int):Int:=IntKind.i64.wrap x
abbrev World.aL(w:World)(o:Obj):World:=w.alloc o
open Go.RowKit
abbrev vI(x:Int):Value:=.int .i64 x
abbrev vU(x:Int):Value:=.int .u64 x
abbrev vB(x:Int):Value:=.int .u8 x
abbrev World.zs(w:World):Nat:=w.heap.size
abbrev Bw(w v:World):Prop:=Below w.heap.size w v
theorem RowKit.Below.tr{n:Nat}{a b c:World}(h:Below n a b)(k:Below n b c):Below n a c:=h.trans k
theorem RowKit.Below.sC{n:Nat}{a w:World}(h:Below n a w){p:Addr}(hp:n<=p.block)(v:Value):Below n a (w.setCell p v):=h.setCell hp v
theorem RowKit.Below.aL{n:Nat}{a w:World}(h:Below n a w)(hs:n<=w.heap.size)(o:Obj):Below n a (w.alloc o):=h.alloc hs o
theorem lR{n:Nat}:n<=n:=Nat.le_refl n
theorem bR{n:Nat}{w:World}:Below n w w:=Below.refl n w
theorem iW{n:Int}(h:-9223372036854775808<=n/\n<=9223372036854775807:=by omega):IntKind.i64.wrap n=n:=IntWalk.i64_in n h
theorem iO{p:Prop}(h:p:=by rw[IntWalk.i64_in _ ⟨by omega,by omega⟩];omega):p:=h
abbrev ud:Value:=undef
abbrev aAt:=@List.length_dropLast
abbrev aAu:=@Array.getElem?_eq_some_iff
abbrev aAv:=@Option.some.inj
abbrev aAw:=@Nat.le_trans
abbrev aAx:=@List.mem_cons
abbrev aAy:=@Nat.lt_of_lt_of_le
abbrev aAz:=@Nat.le_refl
abbrev aAA:=@List.setIfInBounds_toArray
abbrev aAB:=@List.mem_singleton
abbrev aAC:=@List.not_mem_nil
abbrev aAD:=@List.set_cons_zero
abbrev aAE:=@List.set_cons_succ
abbrev aAF:=@Option.some.injEq
abbrev aAG:=@List.getElem?_eq_getElem
abbrev aAH:=@Array.getElem?_setIfInBounds_ne
abbrev aAI:=@List.mem_map_of_mem
abbrev aAJ:=@List.mem_map
abbrev aAK:=@Option.getD_some
abbrev aAL:=@List.mem_append
abbrev aAM:=@Nat.zero_add
abbrev aAN:=@Array.getElem?_eq_getElem
abbrev aAO:=@List.getElem?_eq_some_iff
abbrev aAP:=@List.getElem?_cons_zero
abbrev aAQ:=@List.mem_cons_self
abbrev aAR:=@List.mem_cons_of_mem
abbrev aAS:=@List.map_map
abbrev aAT:=@Array.getElem?_push_size
abbrev aAU:=@Option.map_eq_some_iff
abbrev aAV:=@Array.getElem?_push
abbrev aAW:=@Int.eq_ofNat_of_zero_le
abbrev aAX:=@Option.map_some
abbrev aAY:=@List.getElem?_toArray
abbrev aAZ:=@List.eq_nil_of_length_eq_zero
abbrev aBa:=@Nat.zero_le
abbrev aBb:=@List.getElem?_cons_succ
abbrev aBc:=@List.map_append
abbrev aBd:=@Nat.add_zero
abbrev aBe:=@List.mem_iff_getElem
abbrev aBf:=@List.getElem_mem
abbrev aBg:=@List.pairwise_iff_getElem
abbrev aBh:=@Array.getElem?_eq_none
abbrev aBi:=@List.cons_append
abbrev aBj:=@List.mem_of_getElem?
abbrev aBk:=@Int.tdiv_eq_ediv_of_nonneg
abbrev aBl:=@List.map_cons
abbrev aBm:=@Array.getElem?_setIfInBounds_self_of_lt
abbrev aBn:=@List.getElem?_append_right
abbrev aBo:=@Classical.choose_spec
abbrev aBp:=@Array.getElem?_toList
abbrev aBq:=@Int.le_refl
abbrev aBr:=@List.length_cons
abbrev aBs:=@List.length_append
abbrev aBt:=@List.nodup_cons
abbrev aBu:=@Array.mem_of_getElem?
abbrev aBv:=@List.nodup_append
abbrev aBw:=@List.pairwise_map
abbrev aBx:=@Nat.le_succ
abbrev aBy:=@List.getElem?_map
abbrev aBz:=@Nat.le_of_eq
abbrev aBA:=@List.take_append_drop
abbrev aBB:=@List.length_map
abbrev aBC:=@Array.mem_append
abbrev aBD:=@Array.all_eq_true_iff_forall_mem
abbrev aBE:=@Nat.mod_lt
abbrev aBF:=@Array.getElem?_push_lt
abbrev aBG:=@Int.toNat_of_nonneg
abbrev aBH:=@Array.mem_singleton
abbrev aBI:=@List.getElem?_append_left
abbrev aBJ:=@Nat.mul_lt_mul''
abbrev aBK:=@Array.getElem?_setIfInBounds
abbrev aBL:=@List.append_assoc
abbrev aBM:=@Int.toNat_natCast
abbrev aBN:=@List.length_nil
abbrev aBO:=@List.map_congr_left
abbrev aBP:=@List.take_of_length_le
abbrev aBQ:=@Nat.le_of_lt
abbrev aBR:=@Int.tmod_eq_emod_of_nonneg
abbrev aBS:=@Nat.mod_eq_of_lt
abbrev aBT:=@Bool.and_eq_true
abbrev aBU:=@Bool.false_eq_true
abbrev aBV:=@Nat.lt_of_le_of_lt
abbrev aBW:=@List.nil_append
abbrev aBX:=@List.cons.injEq
abbrev aBY:=@Nat.add_assoc
abbrev aBZ:=@List.append_toArray
abbrev aCa:=@List.take_length
abbrev aCb:=@List.append_nil
abbrev aCc:=@Array.getElem?_eq_none_iff
abbrev aCd:=@Classical.byContradiction
abbrev aCe:=@Nat.mul_le_mul_right
abbrev aCf:=@Nat.add_mul
abbrev aCg:=@List.getElem?_take_of_lt
abbrev aCh:=@List.take_append_getElem
abbrev aCi:=@Nat.lt_or_ge
abbrev aCj:=@Nat.pow_succ
abbrev aCk:=@List.length_set
abbrev aCl:=@List.pairwise_cons
abbrev aCm:=@Nat.min_eq_left
abbrev aCn:=@Int.natCast_nonneg
abbrev aCo:=@Nat.mul_one
abbrev aCp:=@List.size_toArray
abbrev aCq:=@Array.getElem?_modify
abbrev aCr:=@Int.lt_or_le
abbrev aCs:=@Array.replicate_succ
abbrev aCt:=@Array.replicate_zero
abbrev aCu:=@List.mem_of_mem_take
abbrev aCv:=@List.perm_ext_iff_of_nodup
abbrev aCw:=@List.mem_or_eq_of_mem_set
abbrev aCx:=@Array.append_assoc
abbrev aCy:=@Nat.zero_mul
abbrev aCz:=@Array.ext_getElem?
abbrev aCA:=@List.eq_of_mem_replicate
abbrev aCB:=@Nat.mul_comm
abbrev aCC:=@List.map_nil
abbrev aCD:=@Array.getElem?_map
abbrev aCE:=@List.drop_zero
abbrev aCF:=@List.mem_range
abbrev aCG:=@Nat.mul_le_mul
abbrev aCH:=@List.Pairwise.imp
abbrev aCI:=@List.length_range
abbrev aCJ:=@List.push_toArray
abbrev aCK:=@Array.mem_iff_getElem?
abbrev aCL:=@Prod.mk.injEq
abbrev aCM:=@Nat.mul_assoc
abbrev aCN:=@List.getElem_map
abbrev aCO:=@Option.bind_some
abbrev aCP:=@List.set_append_right
abbrev aCQ:=@Array.getElem?_mapIdx
abbrev aCR:=@Array.toList_eraseIdxIfInBounds
abbrev aCS:=@Array.mem_toList_iff
abbrev aCT:=@List.getElem?_of_mem
abbrev aCU:=@List.mem_filter
abbrev aCV:=@UInt8.toNat_inj
abbrev aCW:=@List.take_append_of_le_length
abbrev aCX:=@List.drop_succ_cons
abbrev aCY:=@List.take_take
abbrev aCZ:=@List.nodup_nil
abbrev aDa:=@Nat.eq_zero_or_pos
abbrev aDb:=@Nat.lt_irrefl
abbrev aDc:=@List.ext_getElem?
abbrev aDd:=@Nat.lt_trichotomy
abbrev aDe:=@List.take_add_one
abbrev aDf:=@Nat.min_le_right
abbrev aDg:=@Nat.div_eq_of_lt
abbrev aDh:=@List.map_set
abbrev aDi:=@Nat.add_comm
abbrev aDj:=@Nat.div_add_mod
abbrev aDk:=@Int.natCast_mul
abbrev aDl:=@Array.mem_push
end Go
