import Derived.Test.YtbephahokhnccaaGreatDoorXK12toL0
import Derived.Test.YtbephahokhnccaaGreatDoorE5
import Derived.Stop.Asserts
set_option linter.unusedSectionVars false
set_option maxRecDepth 100000
set_option maxHeartbeats 4000000
namespace Go.Mark
open Go.RowKit Go.Proofs
variable [BaseB]
section
attribute [local go_sem] wd
theorem Yr (V : World) : (convert 31 9 (.slice none 0 0)).run TryQ.prog V = .ok (.string ⟨#[]⟩) V:=by kernel_rfl
theorem Akg {W : World} {f : Nat} {F : Frm} {sv : SV} (hf : W.heap[f]? = ob (frC F sv) 225) :
  Calls TryQ.prog 295 #[pq f 0,.slice none 0 0] W fun e w'=>e = .returned (.iface 174 (.agg #[.int .i64 F.gas,.string ⟨#[]⟩])) /\ Below W.heap.size W w':=by
 go_enter TryQ.func295,Tryz.ntmps295
 go_wp2_with fail
 refine rq (fun V=>V.heap[f]? = ob (frC F sv) 225) hf fun hH=>?_
 refine tx 0 5 (pq f 0) hH ?_
 refine tx 1 6 (pq f 0) hH ?_
 refine tx 2 7 (pq f 13) hH ?_
 refine tv 3 8 (.int .i64 F.gas) (fun _ hW=>bq hW 13 rfl) hH ?_
 refine tx 4 9 (.slice none 0 0) hH ?_
 refine td (i:=5) (d:=some 10) (v:=.string ⟨#[]⟩) rfl rfl (fun V hW=>?_) hH ?_
 ·have hcv:=Yr V
  clear hW hH
  go_simp
 refine tx 6 11 (.agg #[.int .i64 F.gas,.string ⟨#[]⟩]) hH ?_
 refine tx 7 12 (.iface 174 (.agg #[.int .i64 F.gas,.string ⟨#[]⟩])) hH ?_
 refine tx 8 4 (.iface 174 (.agg #[.int .i64 F.gas,.string ⟨#[]⟩])) hH ?_
 refine dn ?_
 go_wp2
 go_ret
 exact ⟨rfl,(Below.refl _ _).drew⟩
theorem Aj3 {W : World} {f : Nat} {F : Frm} {sv : SV} (hf : W.heap[f]? = ob (frC F sv) 225) (et : TypeId) (ev : Value) :
  Calls TryQ.prog 178 #[pq f 0,.iface et ev] W fun e w'=>e = .returned (.iface 217 (.agg #[.int .i64 F.gas,.iface 299 (pq W.heap.size 0)])) /\ w'.heap[W.heap.size]? = ob #[.int .i64 F.self,.int .i64 F.place,.iface et ev,.int .i64 F.bl,.int .i64 F.bg,.int .i64 F.bb] 303 /\ Below W.heap.size W w':=by
 have hfl:=Aa hf
 go_enter TryQ.func178,Tryz.ntmps178
 go_wp2_with fail
 refine rq (fun V=>V.heap[f]? = ob (frC F sv) 225) hf fun hH=>?_
 refine tx 0 6 (pq f 0) hH ?_
 refine tx 1 7 (pq f 0) hH ?_
 refine tx 2 8 (pq f 6) hH ?_
 refine tv 3 9 (.int .i64 F.self) (fun _ hW=>bq hW 6 rfl) hH ?_
 refine tx 4 10 (pq f 0) hH ?_
 refine tx 5 11 (pq f 0) hH ?_
 refine tx 6 12 (pq f 16) hH ?_
 refine tv 7 13 (.int .i64 F.place) (fun _ hW=>bq hW 16 rfl) hH ?_
 refine tx 8 14 (.iface et ev) hH ?_
 refine tx 9 15 (pq f 0) hH ?_
 refine tx 10 16 (pq f 0) hH ?_
 refine tx 11 17 (pq f 1) hH ?_
 refine tv 12 18 (.agg #[.int .i64 F.bl,.int .i64 F.bg,.int .i64 F.bb]) (fun _ hW=>aq (bq hW 1 rfl) (aq (bq hW 2 rfl) (bq hW 3 rfl))) hH ?_
 refine tx 13 19 (.agg #[.int .i64 F.self,.int .i64 F.place,.iface et ev,.int .i64 F.bl,.int .i64 F.bg,.int .i64 F.bb]) hH ?_
 refine r1 14 fun K hK=>?_
 go_simp
 refine hK.out _ (W.drew.alloc (.cells #[.int .i64 F.self,.int .i64 F.place,.iface et ev,.int .i64 F.bl,.int .i64 F.bg,.int .i64 F.bb] 303)) (Aw hH) fun hH=>?_
 clear hK K
 refine tx 15 5 (pq W.heap.size 0) hH ?_
 refine dn ?_
 have c13:=bq hf 13 rfl
 go_wp2
 go_ret
 exact ⟨rfl,Al W.drew _,(Below.refl _ _).drew.alloc (Nat.le_refl _) _⟩
end
section
attribute [local go_sem] wd
end
section
attribute [local go_sem] wd
end
section
attribute [local go_sem] wd
theorem Pres.thenx {B B' : List Nat} {T : List TypeId} {w v u : World} (h : Pres B T w v) (h' : Pres B' T v u) (hB : ∀ k ∈ B',k ∈ B \/ w.heap.size <= k) : Pres B T w u:=by
 refine ⟨h'.os.trans h.os,h'.tape.trans h.tape,h'.output.trans h.output,Nat.le_trans h.size h'.size,fun k hk hn=>?_⟩
 have hn' : k ∉ B':=fun e=>by
  rcases hB k e with e | e
  ·exact hn e
  ·omega
 rcases h.block k hk hn with e | ⟨t,c,c',ht,hb,h1,h2⟩
 ·rcases h'.block k (Nat.lt_of_lt_of_le hk h.size) hn' with e' | ⟨t,c,c',ht,hb,h1,h2⟩
  ·exact .inl (e'.trans e)
  ·exact .inr ⟨t,c,c',ht,hb,e.symm.trans h1,h2⟩
 ·rcases h'.block k (Nat.lt_of_lt_of_le hk h.size) hn' with e' | ⟨t',d,d',ht',_,h3,h4⟩
  ·exact .inr ⟨t,c,c',ht,hb,h1,e'.trans h2⟩
  ·rw [h2] at h3
   cases h3
   exact .inr ⟨t,c,d',ht,hb,h1,h4⟩
theorem Ew (a : Option Addr) (n m c d : Nat) : (Value.slice a n c).ownBlock = (Value.slice a m d).ownBlock:=by cases a <;> rfl
theorem Fz (F : Frm) (sv : SV) : (frC F sv)[14]? = some (.slice sv.a sv.n sv.c):=rfl
end
end Go.Mark
namespace Go.Mark
open Go.RowKit Go.Proofs Go.MapKept Go.ChangeMaps
variable [BaseB]
theorem u125 : TryQ.prog.underlying 125 = some (.map 3 179):=(Ab 125).trans Tryz.underlying125
theorem Aax {κ : Type} {kf : κ -> Value} {mt kt et ty : TypeId} (hm : TryQ.prog.underlying mt = some (.map kt et)) {w : World} {r : Nat} {l : List (κ × Value)} (hM : MapB kf w r l) :
  ∃ o,(Builtin.clear_ #[mt] ty #[.map (some r)]).run TryQ.prog w = .ok (.tuple #[]) { w with heap:=w.heap.setIfInBounds r o } /\ MapB kf { w with heap:=w.heap.setIfInBounds r o } r []:=by
 obtain ⟨es,clock,hb,hR,hS⟩:=hM
 have hlt : r < w.heap.size:=(Array.getElem?_eq_some_iff.1 hb).1
 have hset : ∀ o : Obj,(w.heap.setIfInBounds r o)[r]? = some o:=fun o=>by simp [hlt]
 have hg : (getObj r).run TryQ.prog w = .ok (.map es clock) w:=by simp [getObj,Sem.run,hb]
 have hs : ∀ o : Obj,(setObj r o).run TryQ.prog w = .ok () { w with heap:=w.heap.setIfInBounds r o }:=fun o=>by simp [setObj,Sem.run,hb]
 refine ⟨.map #[] clock,?_,#[],clock,hset _,rfl,by simp [Mx]⟩
 unfold Builtin.clear_
 simp [run_underlying hm,hg,hs]
theorem Pres.setMap (w : World) (r : Nat) (o : Obj) : Pres [r] [] w { w with heap:=w.heap.setIfInBounds r o } :=
 ⟨rfl,rfl,rfl,by simp,fun k _ hn=>.inl (Array.getElem?_setIfInBounds_ne (fun e=>hn (by simp [e])))⟩
theorem Jm {W : World} {b : Nat} (h : MapB (fun x : Int=>Value.int .i64 x) W b (dml [])) : ∃ clock,W.heap[b]? = some (.map #[] clock):=by
 obtain ⟨es,clock,hb,hR,_⟩:=h
 refine ⟨clock,?_⟩
 have : es.toList = []:=by
  have:=congrArg List.length hR
  simpa [dml] using this
 rw [hb]
 congr 2
 exact Array.toList_eq_nil_iff.1 this
theorem Ol {W : World} {l m dmb : Nat} {cr : Int} {L : AL} {J : List Value} (h : LG W l m ⟨dmb,[]⟩ cr L J) :
  Calls TryQ.prog 56 #[pq l 0] W fun e w'=>e = .returned (.tuple #[]) /\ LG w' l m ⟨dmb,[]⟩ cr L [] /\ Pres [l,dmb] [] W w':=by
 obtain ⟨clock,hdm⟩:=Jm h.dmap
 obtain ⟨jv,ho,hown⟩:=h.lj.ex
 have hbx : Below W.heap.size W (W.alloc (.mapIter (some dmb) clock #[] clock)):=ba
 have hrange:=run_range_map (P:=TryQ.prog) W 125 3 179 dmb #[] clock u125 hdm
 have hI:=IterAt.start hdm (by simp [Mx])
 have hdl:=Aa hdm
 have hnx : (Instr.next (pq W.heap.size 0) false 0).run TryQ.prog (W.alloc (.mapIter (some dmb) clock #[] clock)) = .ok (.tuple #[.bool false]) (W.alloc (.mapIter (some dmb) clock #[] clock)):=by
  rcases hI.next (by omega) 0 with ⟨_,h1⟩ | ⟨e,_,he,_⟩
  ·exact h1
  ·simp at he
 have c3:=bq ho 3 rfl
 have ho1 : (W.alloc (.mapIter (some dmb) clock #[] clock)).heap[l]? = _:=Aw ho
 have d3:=bq ho1 3 rfl
 obtain ⟨o,hclr,hM⟩:=Aax (ty:=0) u125 (h.dmap.below hbx)
 have hlt:=Aa ho
 have hne : l ≠ dmb:=Ci ho hdm (fun e=>by cases e)
 have ho2 : ({ (W.alloc (.mapIter (some dmb) clock #[] clock)) with heap:=(W.alloc (.mapIter (some dmb) clock #[] clock)).heap.setIfInBounds dmb o } : World).heap[l]? = _:=(Array.getElem?_setIfInBounds_ne (Ne.symm hne)).trans ho1
 have hp2:=(Pres.of_below hbx [dmb] []).trans (Pres.setMap (W.alloc (.mapIter (some dmb) clock #[] clock)) dmb o)
 generalize hw2 : ({ (W.alloc (.mapIter (some dmb) clock #[] clock)) with heap:=(W.alloc (.mapIter (some dmb) clock #[] clock)).heap.setIfInBounds dmb o } : World) = w2 at hclr hM ho2 hp2
 have f2:=Ai ho2 2
 have c2:=bq ho2 2 rfl
 go_enter TryQ.func56,Tryz.ntmps56
 go_wp2_with fail
 refine wp_loop_rounds 1 ?_
 rw [rounds_succ]
 go_wp2
 simp [bodyPost,results,Tryz.results56,go_sem]
 have hp3 : Pres [l,dmb] [] W (w2.setCell ⟨l,2,none⟩ (.slice none 0 0)):=(hp2.mono (fun k _ hk=>by simp at hk; simp [hk]) (fun t ht=>ht)).trans ((Pres.setCell w2 l 2 _).mono (fun k _ hk=>by simp at hk; simp [hk]) (fun t ht=>ht))
 have hmap : ∀ {κ : Type} {kf : κ -> Value} {r : Nat} {x : List (κ × Value)},MapB kf W r x -> r ≠ dmb -> MapB kf (w2.setCell ⟨l,2,none⟩ (.slice none 0 0)) r x:=fun {κ kf r x} hx hr=>by
  obtain ⟨es,c,he⟩ : ∃ es c,W.heap[r]? = some (.map es c):=let ⟨es,c,h1,_⟩:=hx; ⟨es,c,h1⟩
  refine hx.same ((hp3.obj he trivial ?_).trans he.symm)
  simp only [List.mem_cons,List.not_mem_nil,or_false,not_or]
  exact ⟨Ci he ho (fun e=>by cases e),hr⟩
 refine ⟨⟨⟨h.lj.lo,⟨none,0,0⟩,Av ho2,rfl,.inl ⟨rfl,rfl⟩⟩,hmap h.map h.nmd,hM.same (heap_setCell_other w2 ⟨l,2,none⟩ dmb _ (Ne.symm hne)),fun q hq=>hp3.obj (h.acc q hq) (by simp [I8]) ?_,fun q hq=>hmap (h.slot q hq) (h.nms q hq).2,h.nd,h.ndb,h.bal,h.key,h.ndk,h.ndm,h.nms,h.nmd,h.ndd,h.lo,h.mlo⟩,hp3⟩
 simp only [List.mem_cons,List.not_mem_nil,or_false,not_or]
 exact ⟨Bc (h.acc q hq) ho (by decide),Ci (h.acc q hq) hdm (fun e=>by cases e)⟩
end Go.Mark
namespace Go.Mark
open Go.RowKit Go.Proofs
variable [BaseB]
section
attribute [local go_sem] wd
end
section
attribute [local go_sem] wd
theorem Afm (n : Nat) (h : n < 18446744073709551616) : lim n 0 = (n : Int) /\ lim n 1 = 0 /\ lim n 2 = 0 /\ lim n 3 = 0:=by
 unfold lim
 refine ⟨?_,?_,?_,?_⟩ <;> simp <;> omega
theorem Hu (n : Nat) (h : n < 18446744073709551616) : wd n = .agg #[.int .u64 (n : Int),.int .u64 0,.int .u64 0,.int .u64 0]:=by
 obtain ⟨h0,h1,h2,h3⟩:=Afm n h
 unfold wd
 rw [h0,h1,h2,h3]
theorem Acz (n : Nat) (h : n < 18446744073709551616) : n < M:=Nat.lt_of_lt_of_le h (by decide)
theorem Ajl {W : World} (v n : Nat) (hn : n < 1000000) (hv : v < n) :
  Calls TryQ.prog 326 #[.agg #[.int .u64 (v : Int),.int .u64 0,.int .u64 0,.int .u64 0],.int .i64 (n : Int)] W fun e w'=>e = .returned (.tuple #[.int .i64 (v : Int),.bool true]) /\ Below W.heap.size W w':=by
 have hl:=less v n (Acz v (by omega)) (Acz n (by omega)) (W.alloc (.cells #[.int .u64 (v : Int),.int .u64 0,.int .u64 0,.int .u64 0] 41))
 rw [Hu v (by omega),Hu n (by omega),decide_eq_true hv] at hl
 have hw : IntKind.u64.wrap (n : Int) = (n : Int):=IntWalk.u64_in _ (by omega)
 have hw2 : IntKind.i64.wrap (v : Int) = (v : Int):=IntWalk.i64_in _ ⟨by omega,by omega⟩
 have hb1 : Below W.heap.size W (W.alloc (.cells #[.int .u64 (v : Int),.int .u64 0,.int .u64 0,.int .u64 0] 41)):=ba
 have hn1:=Al W (.cells #[.int .u64 (v : Int),.int .u64 0,.int .u64 0,.int .u64 0] 41)
 clear hn hv
 go_enter TryQ.func326,Tryz.ntmps326
 go_wp2_with fail
 refine hl.mono ?_
 rintro e w2 ⟨rfl,hb2⟩
 have hn2:=bk hb2 hn1
 have c0:=bq hn2 0 rfl
 go_wp2
 simp [bodyPost,results,Tryz.results326,go_sem]
 exact hb1.trans (hb2.mono hb1.size)
end
end Go.Mark
namespace Go.Mark
open Go.RowKit Go.Proofs Go.Extern.Stop Go.Stop Go.Extern
section
variable (w : World)
theorem Aeh (t : Addr) : (ReflectliteValue.unpack (.iface 301 (.pointer (some t)))).run TryQ.prog w = .ok (.agg #[pq 11 301,pq w.heap.size 0,.int .u64 150]) (w.alloc (.cells #[.pointer (some t)] 301)):=by kernel_rfl
theorem Aay (e : Addr) : (ReflectliteValue.unpack (.iface 299 (.pointer (some e)))).run TryQ.prog w = .ok (.agg #[pq 11 299,pq w.heap.size 0,.int .u64 150]) (w.alloc (.cells #[.pointer (some e)] 299)):=by kernel_rfl
theorem Ak0 (a : Addr) : (ReflectliteValue.methodAny (ReflectliteValue.valueError "reflectlite.Value.Type" 0) (fun t _ _ _=>ReflectliteType.toType t) #[.agg #[pq 11 301,.pointer (some a),.int .u64 150]]).run TryQ.prog w = .ok (.iface 355 (.agg #[pq 11 301])) w:=by kernel_rfl
theorem Aia (h : Value) : (Go.method 543 355 (.agg #[h]) "Kind").run TryQ.prog w = .ok (362,h) w:=by kernel_rfl
theorem Aib (h : Value) : (Go.method 543 355 (.agg #[h]) "Elem").run TryQ.prog w = .ok (383,.agg #[h]) w:=by kernel_rfl
theorem Ri (h : Value) : (Go.method 543 355 (.agg #[h]) "Implements").run TryQ.prog w = .ok (384,.agg #[h]) w:=by kernel_rfl
theorem N7 (h : Value) : (Go.method 543 355 (.agg #[h]) "AssignableTo").run TryQ.prog w = .ok (381,.agg #[h]) w:=by kernel_rfl
theorem Aaz  : ((ReflectliteType.abiMethod fun t=>Functor.map (fun a : Nat=>Value.int IntKind.u8 (a : Int)) (Rtype.kind t)) #[pq 11 301]).run TryQ.prog w = .ok (.int .u8 22) w:=by kernel_rfl
theorem Aa0  : ((ReflectliteType.abiMethod fun t=>Functor.map (fun a : Nat=>Value.int IntKind.u8 (a : Int)) (Rtype.kind t)) #[pq 11 299]).run TryQ.prog w = .ok (.int .u8 22) w:=by kernel_rfl
theorem rl_elem  : (ReflectliteType.method ReflectliteType.elem #[.agg #[pq 11 301]]).run TryQ.prog w = .ok (.iface 355 (.agg #[pq 11 299])) w:=by kernel_rfl
theorem Ak1  : (ReflectliteType.relation "Implements" ReflectliteType.implements_ #[.agg #[pq 11 299],.iface 355 (.agg #[pq 11 36])]).run TryQ.prog w = .ok (.bool true) w:=by kernel_rfl
theorem Aei (v : Value) : (ReflectliteType.typeOf #[.iface 299 v]).run TryQ.prog w = .ok (.iface 355 (.agg #[pq 11 299])) w:=by kernel_rfl
theorem Aem  : (ReflectliteType.relation "AssignableTo" ReflectliteType.assignableTo #[.agg #[pq 11 299],.iface 355 (.agg #[pq 11 299])]).run TryQ.prog w = .ok (.bool true) w:=by kernel_rfl
theorem rl_parts (a : Addr) : (ReflectliteValue.parts (.agg #[pq 11 301,.pointer (some a),.int .u64 150])).run TryQ.prog w = .ok (some (301,a,150)) w:=by kernel_rfl
theorem Aek (a : Addr) : (ReflectliteValue.parts (.agg #[pq 11 299,.pointer (some a),.int .u64 406])).run TryQ.prog w = .ok (some (299,a,406)) w:=by kernel_rfl
theorem Aej (a : Addr) : (ReflectliteValue.parts (.agg #[pq 11 299,.pointer (some a),.int .u64 150])).run TryQ.prog w = .ok (some (299,a,150)) w:=by kernel_rfl
theorem Aie  : (Rtype.elem? 301).run TryQ.prog w = .ok (some 299) w:=by kernel_rfl
theorem Aqx (p : Addr) : (ReflectliteValue.mk 299 p ReflectliteValue.flagAddr).run TryQ.prog w = .ok (.agg #[pq 11 299,.pointer (some p),.int .u64 406]) w:=by kernel_rfl
theorem Ael  : (Rtype.directlyAssignable 299 299).run TryQ.prog w = .ok (true) w:=by kernel_rfl
end
theorem Ams (z : Sem Value) (f : TypeId -> Addr -> Nat -> Nat -> Sem Value) (v : Value) : ReflectliteValue.method z f #[v] = ReflectliteValue.parts v >>= fun p=>p.elim z fun q=>f q.1 q.2.1 q.2.2 (q.2.2 % 32):=by
 show (ReflectliteValue.parts v >>= _) = _
 congr 1
 funext p
 rcases p with _ | ⟨t,a,fl⟩ <;> rfl
theorem Aic (a p : Addr) (W : World) (ha : W.cell? a = some (.pointer (some p))) :
  (ReflectliteValue.method (ReflectliteValue.valueError "reflectlite.Value.IsNil" 0) ReflectliteValue.isNil #[.agg #[pq 11 301,.pointer (some a),.int .u64 150]]).run TryQ.prog W = .ok (.bool false) W:=by
 rw [Ams]
 simp only [Sem.run_bind,rl_parts,Result.andThen_ok,Option.elim]
 simp [ReflectliteValue.isNil,loadVar,isAgg,underlying,Tryz.underlying301,ha,Result.andThen]
theorem Aid (a p : Addr) (W : World) (ha : W.cell? a = some (.pointer (some p))) :
  (ReflectliteValue.method (ReflectliteValue.valueError "reflectlite.Value.Elem" 0) ReflectliteValue.elem #[.agg #[pq 11 301,.pointer (some a),.int .u64 150]]).run TryQ.prog W = .ok (.agg #[pq 11 299,.pointer (some p),.int .u64 406]) W:=by
 rw [Ams]
 simp only [Sem.run_bind,rl_parts,Result.andThen_ok,Option.elim]
 simp [ReflectliteValue.elem,loadVar,isAgg,underlying,Tryz.underlying301,ha,Result.andThen,Aie,Aqx]
theorem Anw (ta b e : Addr) (old : Value) (W : World) (hb : W.cell? b = some (.pointer (some e))) (ht : W.cell? ta = some old) (hf : W.frozen? ta = false) :
  (ReflectliteValue.set #[.agg #[pq 11 299,.pointer (some ta),.int .u64 406],.agg #[pq 11 299,.pointer (some b),.int .u64 150]]).run TryQ.prog W = .ok (.tuple #[]) (W.setCell ta (.pointer (some e))):=by
 show (ReflectliteValue.parts (.agg #[pq 11 299,.pointer (some ta),.int .u64 406]) >>= fun p=>ReflectliteValue.parts (.agg #[pq 11 299,.pointer (some b),.int .u64 150]) >>= fun q=>_).run TryQ.prog W = _
 simp only [Sem.run_bind,Aek,Aej,Result.andThen]
 simp [ReflectliteValue.flagAddr,loadVar,isAgg,underlying,Tryz.underlying299,hb,Result.andThen,Ael,storeVar,Value.cells,storeCells,Addr.add]
 rw [run_store TryQ.prog W ta _ _ (by rfl)]
 simp [ht,hf]
theorem Ar3 (e t : Addr) (old : Value) (w : World) (hg : w.cell? ⟨4,0,none⟩ = some (.iface 355 (.agg #[pq 11 36]))) (ht0 : w.cell? t = some old) (hf0 : w.frozen? t = false) :
  Calls TryQ.prog 222 #[.iface 299 (.pointer (some e)),.iface 301 (.pointer (some t))] w fun ev w'=>ev = .returned (.bool true) /\ w' = ((((w.alloc (.cells #[.pointer (some t)] 301)).alloc (.cells #[pq 11 301,pq w.heap.size 0,.int .u64 150] 326)).alloc (.cells #[pq 11 301,pq w.heap.size 0,.int .u64 150] 326)).alloc (.cells #[.pointer (some e)] 299)).setCell t (.pointer (some e)):=by
 have h257:=@run_callFunc_extern TryQ.prog 257 _ (fun args=>ReflectliteValue.unpack (args.getD 0 (.tuple #[]))) TryQ.func257 (by kernel_rfl) (by kernel_rfl) (by kernel_rfl) (by kernel_rfl)
 have h258:=@run_callFunc_extern TryQ.prog 258 _ (ReflectliteValue.methodAny (ReflectliteValue.valueError "reflectlite.Value.Type" 0) (fun t _ _ _=>ReflectliteType.toType t)) TryQ.func258 (by kernel_rfl) (by kernel_rfl) (by kernel_rfl) (by kernel_rfl)
 have h259:=@run_callFunc_extern TryQ.prog 259 _ (ReflectliteValue.method (ReflectliteValue.valueError "reflectlite.Value.IsNil" 0) ReflectliteValue.isNil) TryQ.func259 (by kernel_rfl) (by kernel_rfl) (by kernel_rfl) (by kernel_rfl)
 have h362:=@run_callFunc_extern TryQ.prog 362 _ (ReflectliteType.abiMethod fun t=>do pure (.int .u8 (<- Rtype.kind t))) TryQ.func362 (by kernel_rfl) (by kernel_rfl) (by kernel_rfl) (by kernel_rfl)
 have h383:=@run_callFunc_extern TryQ.prog 383 _ (ReflectliteType.method ReflectliteType.elem) TryQ.func383 (by kernel_rfl) (by kernel_rfl) (by kernel_rfl) (by kernel_rfl)
 have h384:=@run_callFunc_extern TryQ.prog 384 _ (ReflectliteType.relation "Implements" ReflectliteType.implements_) TryQ.func384 (by kernel_rfl) (by kernel_rfl) (by kernel_rfl) (by kernel_rfl)
 have h287:=@run_callFunc_extern TryQ.prog 287 _ (ReflectliteType.typeOf) TryQ.func287 (by kernel_rfl) (by kernel_rfl) (by kernel_rfl) (by kernel_rfl)
 have h381:=@run_callFunc_extern TryQ.prog 381 _ (ReflectliteType.relation "AssignableTo" ReflectliteType.assignableTo) TryQ.func381 (by kernel_rfl) (by kernel_rfl) (by kernel_rfl) (by kernel_rfl)
 have h288:=@run_callFunc_extern TryQ.prog 288 _ (ReflectliteValue.method (ReflectliteValue.valueError "reflectlite.Value.Elem" 0) ReflectliteValue.elem) TryQ.func288 (by kernel_rfl) (by kernel_rfl) (by kernel_rfl) (by kernel_rfl)
 have h289:=@run_callFunc_extern TryQ.prog 289 _ (ReflectliteValue.set) TryQ.func289 (by kernel_rfl) (by kernel_rfl) (by kernel_rfl) (by kernel_rfl)
 have g0:=Aeh
 have g1:=Aay
 have g2:=Ak0
 have g3:=Aia
 have g4:=Aib
 have g5:=Ri
 have g6:=N7
 have g7:=Aaz
 have g8:=Aa0
 have g9:=rl_elem
 have g10:=Ak1
 have g11:=Aei
 have g12:=Aem
 have hlt : 4 < w.heap.size:=by
  rcases Nat.lt_or_ge 4 w.heap.size with h | h
  ·exact h
  ·simp [World.cell?,Array.getElem?_eq_none h] at hg
 have htl : t.block < w.heap.size:=by
  rcases Nat.lt_or_ge t.block w.heap.size with h | h
  ·exact h
  ·simp [World.cell?,Array.getElem?_eq_none h] at ht0
 have n8:=Aic ⟨w.heap.size,0,none⟩ t ((w.alloc (.cells #[.pointer (some t)] 301)).alloc (.cells #[pq 11 301,pq w.heap.size 0,.int .u64 150] 326)) (by simp)
 have hg2 : ((w.alloc (.cells #[.pointer (some t)] 301)).alloc (.cells #[pq 11 301,pq w.heap.size 0,.int .u64 150] 326)).cell? ⟨4,0,none⟩ = some (.iface 355 (.agg #[pq 11 36])):=by
  rw [World.cell?_alloc_lt _ _ ⟨4,0,none⟩ (by simp; omega),World.cell?_alloc_lt _ _ ⟨4,0,none⟩ hlt]; exact hg
 have el:=Aid ⟨w.heap.size,0,none⟩ t (((w.alloc (.cells #[.pointer (some t)] 301)).alloc (.cells #[pq 11 301,pq w.heap.size 0,.int .u64 150] 326)).alloc (.cells #[pq 11 301,pq w.heap.size 0,.int .u64 150] 326)) (by rw [World.cell?_alloc_lt _ _ ⟨w.heap.size,0,none⟩ (by simp; omega)]; simp)
 have st:=Anw t ⟨w.heap.size + 1 + 1 + 1,0,none⟩ e old ((((w.alloc (.cells #[.pointer (some t)] 301)).alloc (.cells #[pq 11 301,pq w.heap.size 0,.int .u64 150] 326)).alloc (.cells #[pq 11 301,pq w.heap.size 0,.int .u64 150] 326)).alloc (.cells #[.pointer (some e)] 299))
  (by rw [World.cell?_alloc_at _ _ _ _ (by simp)]; rfl)
  (by rw [World.cell?_alloc_lt _ _ t (by simp; omega),World.cell?_alloc_lt _ _ t (by simp; omega),World.cell?_alloc_lt _ _ t (by simp; omega),World.cell?_alloc_lt _ _ t htl]; exact ht0)
  (by rw [World.frozen?_alloc_old _ _ t (by simp; omega),World.frozen?_alloc_old _ _ t (by simp; omega),World.frozen?_alloc_old _ _ t (by simp; omega),World.frozen?_alloc_old _ _ t (Nat.ne_of_lt htl)]; exact hf0)
 go_enter TryQ.func222,Tryz.ntmps222
 go_wp2
 refine wp_loop_rounds 1 ?_
 rw [rounds_succ]
 go_wp2
 go_ret
 exact ⟨rfl,rfl⟩
end Go.Mark
namespace Go.Mark
open Go.RowKit Go.Proofs Go.Extern.Stop Go.Stop Go.Extern
variable [BaseB]
theorem Ag3 (v : Value) (w : World) : (ReflectliteType.typeOf #[.iface 407 v]).run TryQ.prog w = .ok (.iface 355 (.agg #[pq 11 407])) w:=by kernel_rfl
theorem Aaf (w : World) : ((ReflectliteType.method fun t=>do Rtype.noPackHeld "Comparable" t; Functor.map (fun a : TypeInfo=>Value.bool a.comparable) (typeInfo t)) #[.agg #[pq 11 407]]).run TryQ.prog w = .ok (.bool true) w:=by kernel_rfl
theorem Vv (v : Value) (w : World) : (Go.method 543 355 v "Comparable").run TryQ.prog w = .ok (382,v) w:=by kernel_rfl
theorem Vw : (TryQ.prog.info? 407).map (·.comparable) = some true:=by kernel_rfl
theorem Vu : (TryQ.prog.info? 431).map (·.size) = some 1:=by kernel_rfl
theorem Yf (v : Value) (xT : TypeId) (w : World) : (Instr.typeAssert (.iface 407 v) xT 423 true).run TryQ.prog w = .ok (.tuple #[.nilIface,.bool false]) w:=run_typeAssert_lacksB ((Ab 423).trans Tryz.underlying423) (by kernel_rfl) (by kernel_rfl) v xT w
theorem Yd (v : Value) (xT : TypeId) (w : World) : (Instr.typeAssert (.iface 407 v) xT 363 true).run TryQ.prog w = .ok (.tuple #[.nilIface,.bool false]) w:=run_typeAssert_lacksB ((Ab 363).trans Tryz.underlying363) (by kernel_rfl) (by kernel_rfl) v xT w
theorem Uk (v : Value) (xT : TypeId) (w : World) : (Instr.typeAssert (.iface 407 v) xT 365 true).run TryQ.prog w = .ok (.tuple #[.nilIface,.bool false]) w:=run_typeAssert_lacksB ((Ab 365).trans Tryz.underlying365) (by kernel_rfl) (by kernel_rfl) v xT w
theorem Ye (v : Value) (xT : TypeId) (w : World) : (Instr.typeAssert (.iface 299 v) xT 423 true).run TryQ.prog w = .ok (.tuple #[.nilIface,.bool false]) w:=run_typeAssert_lacksB ((Ab 423).trans Tryz.underlying423) (by kernel_rfl) (by kernel_rfl) v xT w
theorem Ahi (v : Value) (xT : TypeId) (w : World) : (Instr.typeAssert (.iface 299 v) xT 363 true).run TryQ.prog w = .ok (.tuple #[.iface 299 v,.bool true]) w:=run_typeAssert_hasB ((Ab 363).trans Tryz.underlying363) (by kernel_rfl) v xT w
theorem Ahh (v : Value) (w : World) : (Go.method 543 299 v "Unwrap").run TryQ.prog w = .ok (375,v) w:=by kernel_rfl
theorem Al1 (a : Addr) (w : World) :
  Calls TryQ.prog 371 #[.iface 407 (.pointer (some a)),.iface 407 (.pointer (some a))] w fun e w'=>e = .returned (.bool true) /\ w' = w:=by
 obtain ⟨i,hi,hcmp⟩:=Option.map_eq_some_iff.1 Vw
 obtain ⟨j,hj,hjs⟩:=Option.map_eq_some_iff.1 Vu
 have h287:=@run_callFunc_extern TryQ.prog 287 _ ReflectliteType.typeOf TryQ.func287 (by kernel_rfl) (by kernel_rfl) (by kernel_rfl) (by kernel_rfl)
 have h382:=@run_callFunc_extern TryQ.prog 382 _ (ReflectliteType.method fun t=>do Rtype.noPackHeld "Comparable" t; pure (.bool (<- typeInfo t).comparable)) TryQ.func382 (by kernel_rfl) (by kernel_rfl) (by kernel_rfl) (by kernel_rfl)
 have tT:=Ag3
 have cT:=Aaf
 have mR:=Vv
 have heq:=run_eql_iface_ptr_same (P:=TryQ.prog) w a ((Ab 36).trans Tryz.underlying36) ((Ab 407).trans Tryz.underlying407) hi hcmp hj
 go_enter TryQ.func371,Tryz.ntmps371
 go_wp2
 refine wp_loop_rounds 1 ?_
 rw [rounds_succ]
 go_wp2
 go_ret
 exact ⟨rfl,rfl⟩
theorem Ajh {a b : Addr} {ca cb : Array Value} {ta tb : TypeId} {w : World} (hne : a ≠ b) (ha : w.heap[a.block]? = ob ca ta) (hb : w.heap[b.block]? = ob cb tb) :
  Calls TryQ.prog 371 #[.iface 407 (.pointer (some a)),.iface 407 (.pointer (some b))] w fun e w'=>e = .returned (.bool false) /\ w' = w:=by
 obtain ⟨i,hi,hcmp⟩:=Option.map_eq_some_iff.1 Vw
 obtain ⟨j,hj,hjs⟩:=Option.map_eq_some_iff.1 Vu
 have h287:=@run_callFunc_extern TryQ.prog 287 _ ReflectliteType.typeOf TryQ.func287 (by kernel_rfl) (by kernel_rfl) (by kernel_rfl) (by kernel_rfl)
 have h382:=@run_callFunc_extern TryQ.prog 382 _ (ReflectliteType.method fun t=>do Rtype.noPackHeld "Comparable" t; pure (.bool (<- typeInfo t).comparable)) TryQ.func382 (by kernel_rfl) (by kernel_rfl) (by kernel_rfl) (by kernel_rfl)
 have tT:=Ag3
 have cT:=Aaf
 have mR:=Vv
 have a0:=Yf
 have a1:=Yd
 have a2:=Uk
 have a3:=Ye
 have a4:=Ahi
 have a5:=Ahh
 have heq:=run_eql_iface_ptr_other (P:=TryQ.prog) w ((Ab 36).trans Tryz.underlying36) ((Ab 407).trans Tryz.underlying407) hi hcmp hj (by rw [hjs]; decide) hne ha hb
 go_enter TryQ.func371,Tryz.ntmps371
 go_wp2
 refine wp_loop_rounds 1 ?_
 rw [rounds_succ]
 go_wp2
 go_ret
 exact ⟨rfl,rfl⟩
theorem Yg {a b : Addr} {ca cb : Array Value} {ta tb : TypeId} {w : World} {fb : Nat} (h1 : w.cell? ⟨fb,2,none⟩ = some (.iface 407 (.pointer (some a)))) (hne : a ≠ b) (ha : w.heap[a.block]? = ob ca ta) (hb : w.heap[b.block]? = ob cb tb) :
  Calls TryQ.prog 371 #[.iface 299 (pq fb 0),.iface 407 (.pointer (some b))] w fun e w'=>e = .returned (.bool false) /\ w' = w:=by
 obtain ⟨i,hi,hcmp⟩:=Option.map_eq_some_iff.1 Vw
 obtain ⟨j,hj,hjs⟩:=Option.map_eq_some_iff.1 Vu
 have h287:=@run_callFunc_extern TryQ.prog 287 _ ReflectliteType.typeOf TryQ.func287 (by kernel_rfl) (by kernel_rfl) (by kernel_rfl) (by kernel_rfl)
 have h382:=@run_callFunc_extern TryQ.prog 382 _ (ReflectliteType.method fun t=>do Rtype.noPackHeld "Comparable" t; pure (.bool (<- typeInfo t).comparable)) TryQ.func382 (by kernel_rfl) (by kernel_rfl) (by kernel_rfl) (by kernel_rfl)
 have tT:=Ag3
 have cT:=Aaf
 have mR:=Vv
 have a0:=Yf
 have a1:=Yd
 have a2:=Uk
 have a3:=Ye
 have a4:=Ahi
 have a5:=Ahh
 have heq:=run_eql_iface_ptr_other (P:=TryQ.prog) w ((Ab 36).trans Tryz.underlying36) ((Ab 407).trans Tryz.underlying407) hi hcmp hj (by rw [hjs]; decide) hne ha hb
 have hty:=run_eql_iface_types (P:=TryQ.prog) 299 407 (pq fb 0) (.pointer (some b)) ((Ab 36).trans Tryz.underlying36) (by decide) w
 go_enter TryQ.func371,Tryz.ntmps371
 go_wp2
 refine wp_loop_rounds 2 ?_
 rw [rounds_succ]
 go_wp2
 rw [rounds_succ]
 go_wp2
 go_ret
 exact ⟨rfl,rfl⟩
theorem Ki {W : World} {fb : Nat} {a d li : Addr} {ca cd cl : Array Value} {ta td tl : TypeId} {g : Int} (h1 : W.cell? ⟨fb,2,none⟩ = some (.iface 407 (.pointer (some a)))) (hl : fb < W.heap.size) (c0 : W.cell? ⟨0,0,none⟩ = some (.iface 407 (.pointer (some d)))) (c3 : W.cell? ⟨3,0,none⟩ = some (.iface 407 (.pointer (some li)))) (hl3 : 3 < W.heap.size) (ha : W.heap[a.block]? = ob ca ta) (hd : W.heap[d.block]? = ob cd td) (hli : W.heap[li.block]? = ob cl tl) (hne : a ≠ d) (hne' : a ≠ li) :
  Calls TryQ.prog 370 #[.agg #[.int .i64 g,.iface 299 (pq fb 0)]] W fun e w'=>e = .returned (.int .i64 0) /\ Below W.heap.size W w':=by
 have hb : Below W.heap.size W (W.alloc (.cells #[.int .i64 g,.iface 299 (pq fb 0)] 217)):=ba
 have h2:=(hb.cell (p:=⟨fb,2,none⟩) hl).trans h1
 have d0:=(hb.cell (p:=⟨0,0,none⟩) (by show 0 < _; omega)).trans c0
 have d3:=(hb.cell (p:=⟨3,0,none⟩) hl3).trans c3
 have hal:=bk hb ha
 have i1:=Yg (b:=d) h2 hne hal ((hb.block _ (Aa hd)).trans hd)
 have i2:=Yg (b:=li) h2 hne' hal ((hb.block _ (Aa hli)).trans hli)
 clear h1 h2 c0 c3 ha hd hli hal
 go_enter TryQ.func370,Tryz.ntmps370
 go_wp2_with fail
 refine i1.mono ?_
 rintro e w1 ⟨rfl,rfl⟩
 clear i1
 go_wp2_with fail
 refine i2.mono ?_
 rintro e w1 ⟨rfl,rfl⟩
 clear i2
 go_wp2
 go_ret
 exact ⟨rfl,hb⟩
end Go.Mark
namespace Go.Mark
open Go.RowKit Go.Proofs
variable [BaseB]
section
attribute [local go_sem] wd
def fr0 (self caller : Int) (val : Nat) (data : SV) (gas : Int) : Array Value:=#[.pointer none,.int .i64 0,.int .i64 0,.int .i64 0,.string ⟨#[]⟩,.slice none 0 0,.int .i64 self,.int .i64 caller,.int .u64 (lim val 0),.int .u64 (lim val 1),.int .u64 (lim val 2),.int .u64 (lim val 3),.slice data.a data.n data.c,.int .i64 gas,.slice none 0 0,.slice none 0 0,.int .i64 0,.int .i64 0]
section
variable {W : World} {l m mc : Nat} {dm : Dm} {cr : Int} {L : AL} {J : List Value} {lg : SV} {back depth : Int}
theorem Yt (h : LG W l m dm cr L J) (hm : W.heap[mc]? = ob (Aj l lg back depth) 165) (self caller : Int) (val : Nat) (data : SV) (gas : Int) :
  Calls TryQ.prog 134 #[pq mc 0,.agg (fr0 self caller val data gas)] W fun e w'=>e = .returned (pq W.heap.size 0) /\ w'.heap[W.heap.size]? = ob (frC ⟨mc,(J.length : Int),(lg.n : Int),back,⟨#[]⟩,⟨none,0,0⟩,self,caller,val,data,gas,0,0⟩ ⟨none,0,0⟩) 225 /\ Below W.heap.size W w':=by
 have hb1 : Below W.heap.size W (W.alloc (.cells (fr0 self caller val data gas) 225)):=ba
 have hn1:=Al W (.cells (fr0 self caller val data gas) 225)
 have hnow:=Aob (h.below hb1) (Aw (p:=.cells (fr0 self caller val data gas) 225) hm)
 unfold fr0 at hb1 hn1 hnow ⊢
 go_enter TryQ.func134,Tryz.ntmps134
 go_wp2_with fail
 refine hnow.mono ?_
 rintro e w2 ⟨rfl,hb2⟩
 clear hnow
 have hn2:=bk hb2 hn1
 have hl2:=Aa hn2
 have c0:=bq hn2 0 rfl
 have c1:=bq hn2 1 rfl
 have c2:=bq hn2 2 rfl
 have c3:=bq hn2 3 rfl
 have f0:=Ai hn2 0
 have f1:=Ai hn2 1
 have f2:=Ai hn2 2
 have f3:=Ai hn2 3
 go_wp2
 go_ret
 have hbA:=hb1.trans (hb2.mono hb1.size)
 exact ⟨rfl,Cx _ _ _ _ hn2,(((hbA.setCell (Nat.le_refl _) _).setCell (Nat.le_refl _) _).setCell (Nat.le_refl _) _).setCell (Nat.le_refl _) _⟩
end
end
section
attribute [local go_sem] wd
theorem lj_n {W : World} {jv : SV} {J : List Value} (h : W.ownsRow BaseB.b0 262 1 (.slice jv.a jv.n jv.c) J.length J) : jv.n = J.length:=by
 rcases h.2 with ⟨h1,h2⟩ | ⟨g,cap,cur,h1,_⟩
 ·simp only [Value.slice.injEq] at h1; omega
 ·simp only [Value.slice.injEq] at h1; exact h1.2.1
theorem Aly {W : World} {a : Option Addr} {c : Nat} {J : List Value} (h : W.ownsRow BaseB.b0 262 1 (.slice a J.length c) J.length J) (mo : Nat) (hmo : mo <= J.length) : W.ownsRow BaseB.b0 262 1 (.slice a mo c) (J.take mo).length (J.take mo):=by
 have hl : (J.take mo).length = mo:=by simp [hmo]
 rw [hl]
 rcases h.2 with ⟨h1,h2⟩ | ⟨g,cap,cur,h1,_⟩
 ·obtain rfl : J = []:=List.eq_nil_of_length_eq_zero h2
  simp only [Value.slice.injEq] at h1
  obtain ⟨rfl,_,rfl⟩:=h1
  obtain rfl : mo = 0:=by simpa using hmo
  exact ⟨by simp,.inl ⟨rfl,rfl⟩⟩
 ·simp only [Value.slice.injEq] at h1
  obtain ⟨rfl,_,rfl⟩:=h1
  obtain ⟨m,hm⟩ : ∃ m,J.length = mo + m:=⟨J.length - mo,by omega⟩
  have h':=h
  rw [hm] at h'
  have e : J = J.take mo ++ J.drop mo:=(List.take_append_drop mo J).symm
  rw [e] at h'
  exact Vo h' (by omega)
theorem Aki {W : World} {l m dm : Nat} {cr : Int} {J : List Value} (mo : Nat) (hmo : mo <= J.length) (hJ : J.length < 100000000) (I : Nat -> World -> Prop)
  (hLJ : ∀ n w,I n w -> LJ w l m cr dm J)
  (hst : ∀ n w,mo <= n -> n < J.length -> I (n + 1) w -> ∃ t v fn,J[n]? = some (.iface t v) /\ (∀ w,(Go.method 543 t v "purser/ledger.undo").run TryQ.prog w = .ok (fn,v) w) /\ (∀ args w,(callFunc fn args).run TryQ.prog w = .ok (.enter fn args) w) /\ Calls TryQ.prog fn #[v,pq l 0] w fun e w'=>e = .returned (.tuple #[]) /\ I n w')
  (h0 : I J.length W) : Calls TryQ.prog 223 #[pq l 0,.int .i64 (mo : Int)] W fun e w'=>e = .returned (.tuple #[]) /\ ∃ w1,I mo w1 /\ LJ w' l m cr dm (J.take mo) /\ Pres [l] [] w1 w':=by
 obtain ⟨jv,ho,hown⟩:=(hLJ _ _ h0).ex
 have hn:=lj_n hown
 have c2:=bq ho 2 rfl
 rw [hn] at c2
 have hlt:=Aa ho
 have i1 : IntKind.i64.wrap ((J.length : Int) - 1) = (J.length : Int) - 1:=IntWalk.i64_in _ ⟨by omega,by omega⟩
 have h0s : Shut (I J.length W):=h0
 have hst' : Shut (∀ n w,mo <= n -> n < J.length -> I (n + 1) w -> ∃ t v fn,J[n]? = some (.iface t v) /\ (∀ w,(Go.method 543 t v "purser/ledger.undo").run TryQ.prog w = .ok (fn,v) w) /\ (∀ args w,(callFunc fn args).run TryQ.prog w = .ok (.enter fn args) w) /\ Calls TryQ.prog fn #[v,pq l 0] w fun e w'=>e = .returned (.tuple #[]) /\ I n w'):=hst
 have hLJ' : Shut (∀ n w,I n w -> LJ w l m cr dm J):=hLJ
 clear hst hLJ h0
 go_enter TryQ.func223,Tryz.ntmps223
 go_wp2_with fail
 clear c2 ho hown hn i1 hlt
 go_loopw [4] (fun i w=>∃ n : Nat,i = .int .i64 ((n : Int) - 1) /\ mo <= n /\ n <= J.length /\ Shut (I n w)) (fun i _=>(Go.RowKit.intOf i + 1).toNat)
 case atStart=>exact ⟨J.length,rfl,hmo,Nat.le_refl _,h0s⟩
 case round =>
  obtain ⟨n,rfl,h1,h2,hI⟩:=hrel
  obtain ⟨jv,ho,hown⟩:=(hLJ'.out _ _ hI.out).ex
  have hn:=lj_n hown
  have c2:=bq ho 2 rfl
  rw [hn] at c2 hown
  have hlt:=Aa ho
  by_cases hlt2 : mo < n
  ·obtain ⟨k,rfl⟩ : ∃ k,n = k + 1:=⟨n - 1,by omega⟩
   have e1 : ((k + 1 : Nat) : Int) - 1 = (k : Int):=by omega
   rw [e1]
   obtain ⟨t,v,fn,hj,hmt,hcf,hcall⟩:=hst'.out k wr (by omega) (by omega) hI.out
   obtain ⟨g,cap,cur,hsl⟩ : ∃ g cap cur,Value.slice jv.a J.length jv.c = .slice (some ⟨g,0,none⟩) J.length cap /\ wr.heap[g]? = ob cur 262:=by
    rcases hown.2 with ⟨_,h'⟩ | ⟨g,cap,cur,h',_,hg,_⟩
    ·omega
    ·exact ⟨g,cap,cur,h',hg⟩
   simp only [Value.slice.injEq] at hsl
   obtain ⟨⟨hja,_,rfl⟩,hgc⟩:=hsl
   rw [hja] at c2 hown
   have hcell:=(hown.cells (g:=g) rfl) k _ hj
   have hadd : (⟨g,0,none⟩ : Addr).add k = ⟨g,k,none⟩:=by unfold Addr.add; split <;> simp_all
   rw [hadd] at hcell
   clear hadd
   have hklt : (k : Int) < (J.length : Int):=by omega
   have hmk : (mo : Int) <= (k : Int):=by omega
   have i2 : IntKind.i64.wrap ((k : Int) - 1) = (k : Int) - 1:=IntWalk.i64_in _ ⟨by omega,by omega⟩
   have hcs : Shut (Calls TryQ.prog fn #[v,pq l 0] wr fun e w'=>e = .returned (.tuple #[]) /\ I k w'):=hcall
   clear hcall hI e1 hst' hLJ'
   go_wp2_with fail
   refine hcs.out.mono ?_
   rintro e w2 ⟨rfl,hI2⟩
   have hI2s : Shut (I k w2):=hI2
   clear hI2 hcs hmt hcf
   go_wp2_with fail
   refine ⟨⟨k,rfl,by omega,by omega,hI2s⟩,?_⟩
   simp [Go.RowKit.intOf]
  ·obtain rfl : n = mo:=by omega
   have hge : ¬ ((n : Int) <= (n : Int) - 1):=by omega
   have hown2:=Aly hown n hmo
   have f2:=Ai ho 2
   have hmo2 : (n : Int) <= (J.length : Int):=by omega
   have hcap : J.length <= jv.c:=by
    rcases hown.2 with ⟨h',h''⟩ | ⟨g,cap,cur,h',_,_,hnc,_⟩
    ·omega
    ·simp only [Value.slice.injEq] at h'; obtain ⟨_,_,rfl⟩:=h'; exact hnc
   go_wp2_with fail
   simp [bodyPost,results,Tryz.results223,go_sem]
   refine ⟨wr,hI.out,⟨(hLJ'.out _ _ hI.out).lo,⟨jv.a,n,jv.c⟩,Av ho,Cw hown2 fun k hk=>heap_setCell_other wr ⟨l,2,none⟩ k _ (fun e=>?_)⟩,Pres.setCell _ _ _ _⟩
   obtain ⟨cur,hcur⟩:=Cj hown2 k hk
   exact Bc hcur ho (by decide) e
end
end Go.Mark
