import Derived.Test.YtbephahokhnccaaGreatDoorRows
import Derived.LaidMore
import Derived.SevenTiedAt
import Derived.Test.YtbephahokhnccaaGreatDoorJ35
set_option linter.all false
namespace Go.Proofs.YtbephahokhnccaaGreatDoor
section
open Go.ChangeShapes Go.WideShapes Go.RowKit Go.Conc Go.Mark
section
def O4:ownKnob Tryz.prog.godebug=none:=kR
def LZ:laidOutB Tryz.prog=true:=kR
section
variable {H:Type}{enc:Fh×vZ->H}
def HG{a:Assume}{C:Checked}{B:Os}{f:FuncId}{fn:Func}{s:ChangeSpec}{l:List PathCond}{b fresh g h:Bool}{X:WR->Ff->Prop}(K:∀w n args,w.heap=n.heap->X w args->X n args)(own:ownKnob C.prog.godebug=none)(k:B.Started)(E:C.prog.funcs[f]?=some fn)(m:∃(w:WR) (c:Tape) (i:Input),w.os=B/\(w.forCall c i).Shaped C.prog/\i.vars=[]/\Input.okWide C.prog (w.forCall c i) .any w.heap.size f i/\
   ((s.pre enc C.prog fn l b (w.forCall c i).memory i.args/\X (w.forCall c i).memory i.args)/\sizedMet enc C.prog fn (OpenSpec.ofChange s) b (w.forCall c i).memory i.args)/\a.holds C.prog (lone (Frame.enter C.prog f i.args .normal) [] (w.forCall c i)))(p:∀(W:WR) (base:Nat) (args:Ff) (z y:List (DataW H)) (d:List MemPlace),
   (∀(j:Nat) t v,fn.params[j]?=some t->args[j]?=some v->Value.okWide C.prog W .any base t v)->
   DataW.Whole enc C.prog fn.params.toList s.vars b W args.toList z y d->X W args->(DataW.weightsEach C.prog (fn.params.toList++s.plain.varTypes C.prog) (z++y)).all (· <=reachBytes)=true->
   ∃M last o n x,runNT C.prog (M+1) (solo (G (Frame.enter C.prog f args .normal) []) W) #[]=(.ended o n,x)/\runN C.prog M (solo (G (Frame.enter C.prog f args .normal) []) W)=.next last/\
    step C.prog last=.ended o n/\Conc.Good C.prog (fun v Q=>s.post enc C.prog fn b fresh g h W args v Q) last o n x):
  ReturnsInLeavingWide a C B f .any (fun w args=>(s.pre enc C.prog fn l b w args/\X w args)/\sizedMet enc C.prog fn (OpenSpec.ofChange s) b w args) (s.post enc C.prog fn b fresh g h):=by
 refine returnsInLeavingWide_of_good own k m ?_;intro w c i _ _ _ D u _;obtain⟨_,_,_,F,r,_,_,_,_,q⟩:=D;have e:F=fn:=aAv (r.symm.tr E);subst e;obtain⟨⟨⟨z,y,d,I,_⟩,P⟩,N⟩:=u;have A:=DataW.Whole.of_heap (w':=w.forCall c i) rI I;have⟨M,last,o,n,x,L,J,h3,h4⟩:=p (w.forCall c i) w.heap.size i.args z y d q A (K _ _ _ rI P) (N.weights I);exact⟨M,last,o,n,x,L,J,h3,h4.mono fun v O=>ChangeSpec.post_blind O⟩
end
def mh(a:Os)(args:Ff):laidMetH Tryz.prog Rows.undoneRow.laid ((World.doorLaid Tryz.prog 168 a).forCall (fun _ _=>0) ⟨#[],args,[]⟩).memory:=
 laidMetH_of_parts3 (fuel:=8) (laidMet_of_run' 8 kR kR) kR kR
def Ky{W:WR}(h:laidMetH Tryz.prog Rows.undoneRow.laid W):∃k l, @Ge ⟨W.heap.size,W.heap.size,Nat.le_refl _⟩ W k l:=by
 obtain⟨o,g⟩:=laidMetH_iff.1 h;have pick:∀(a b:String) (x y:DataW Unit),(Rows.undoneRow.laid.filter fun x=>x.2.handleName?.isNone).filter (fun x=>x.1==a||x.1==b)=[(a,x),(b,y)]->laidMet Tryz.prog [(a,x),(b,y)] W:=fun a b x y e=>by
  have d:=o.filter (fun x=>x.1==a||x.1==b);rw[e] at d;exact d
 have r:(Rows.undoneRow.laid.filter fun x=>x.2.handleName?.isSome)=[("errors.errorType",Rows.laid_errors_errorType)]:=kR
 rw[r] at g;refine Km (pick _ _ Rows.laid_purser_ledger_ErrLittle Rows.laid_purser_machine_ErrDeep kR) (fun q c=>?_) ?_
 .simp only[List.mem_cons,List.not_mem_nil,or_false] at c;rcases c with rfl|rfl|rfl|rfl|rfl|rfl
  .exact⟨_,pick _ _ Rows.laid_purser_ledger_ErrLittle Rows.laid_purser_machine_ErrNoGas kR,pick _ _ Rows.laid_purser_machine_ErrNoGas Rows.laid_purser_machine_ErrDeep kR⟩
  .exact⟨_,pick _ _ Rows.laid_purser_ledger_ErrLittle Rows.laid_purser_machine_ErrLongCode kR,pick _ _ Rows.laid_purser_machine_ErrLongCode Rows.laid_purser_machine_ErrDeep kR⟩
  .exact⟨_,pick _ _ Rows.laid_purser_ledger_ErrLittle Rows.laid_purser_machine_ErrNoInstruction kR,pick _ _ Rows.laid_purser_machine_ErrNoInstruction Rows.laid_purser_machine_ErrDeep kR⟩
  .exact⟨_,pick _ _ Rows.laid_purser_ledger_ErrLittle Rows.laid_purser_machine_ErrFewWords kR,pick _ _ Rows.laid_purser_machine_ErrFewWords Rows.laid_purser_machine_ErrDeep kR⟩
  .exact⟨_,pick _ _ Rows.laid_purser_ledger_ErrLittle Rows.laid_purser_machine_ErrManyWords kR,pick _ _ Rows.laid_purser_machine_ErrManyWords Rows.laid_purser_machine_ErrDeep kR⟩
  .exact⟨_,pick _ _ Rows.laid_purser_ledger_ErrLittle Rows.laid_purser_machine_ErrNoMark kR,pick _ _ Rows.laid_purser_machine_ErrNoMark Rows.laid_purser_machine_ErrDeep kR⟩
 .obtain⟨name,u,n,k1,p,j,s,f⟩:=g _ (List.mem_singleton.2 rfl);have m:name=[101,114,114,111,114]:=(Option.some.inj k1).symm;subst m;obtain rfl:=Option.some.inj (Qx.symm.trans p);have i:n∈(List.range 443).filter fun t=>Tryz.prog.rowNamed t [101,114,114,111,114]:=List.mem_filter.2 ⟨List.mem_range.2 (by rw[<-Qw];exact j),s⟩;rw[E2] at i;obtain rfl:=List.mem_singleton.1 i;rw[lY] at f;simpa using World.var?_cell Qv f 0
set_option maxRecDepth 100000 in
def BW(l:Os)(a:l.Started)(H:Type)(enc:Fh×vZ->H):
  ReturnsInLeavingWide {} Tryz.checked l 6 .any (fun w args=>(Rows.undoneSpec.pre enc Tryz.prog Tryz.f6 [] false w args/\laidMetH Tryz.prog Rows.undoneRow.laid w)/\sizedMet enc Tryz.prog Tryz.f6 (OpenSpec.ofChange Rows.undoneSpec) false w args) (Rows.undoneSpec.post enc Tryz.prog Tryz.f6 false true false false):=by
 refine HG (C:=Tryz.checked) (X:=fun w _=>laidMetH Tryz.prog Rows.undoneRow.laid w) (fun _ _ _ hh h=>h.of_heap hh) O4 a Tryz.func6
  (ChangeSpec.witness_shaped (enc:=enc) (C:=Tryz.checked) (os:=l) (X:=fun w _=>laidMetH Tryz.prog Rows.undoneRow.laid w) false (World.doorLaid Tryz.prog 168 l) #[.slice none 0 0,.agg #[.int .i64 0,.int .i64 0,.int .i64 0,.int .u64 0,.int .u64 0,.int .u64 0,.int .u64 0,.int .i64 0,.int .i64 0,.string ByteArray.empty,.int .i64 0]] 8 rfl (World.shaped_of_RefB kR kR) kR kR kR (mh l _)) ?_
 intro W base args T Y A b R hL k;have m:(DataW.weightsEach Tryz.prog (Tryz.f6.params.toList++Rows.undoneSpec.plain.varTypes Tryz.prog) (T++Y)).all (· <=reachBytes)=true:=k;clear k;have c:∀(j:Nat) t v,Tryz.f6.params[j]?=some t->args[j]?=some v->Value.okWide Tryz.prog W .any base t v:=b;have f:=R;obtain⟨p,q,s,hV,rfl,_,_⟩:=R;have P:DataW.TrodAll enc Tryz.prog W 0 (fun _=>true) true Tryz.f6.params.toList args.toList T p:=s;rw[Tryz.params6] at P c m;obtain⟨v0,v1,D,d1,L,U,rfl,rfl,rfl,Q,S⟩:=trodAll_two P;obtain⟨rfl,rfl⟩:=trodVars_none hV;have y:=c 0 22 v0 rfl rfl;obtain⟨a0,len,cap,rfl⟩:=okWide_slice Tryz.underlying22 y;obtain⟨B,rfl⟩:∃B,v1=.agg B:=by
  have:=c 1 43 v1 rfl rfl;simp only[Value.okWide,Tryz.underlying43] at this;obtain⟨B,e,_⟩:=this;exact⟨B,e⟩
 have C:=Q;obtain⟨O,hf⟩:=Q;clear s b;simp only[List.append_nil] at f;have z:∀x∈L,x.block<W.heap.size:=fun x E=>f.lt x (by simp[E]);have r:∀x∈U,x.block<W.heap.size:=fun x E=>f.lt x (by simp[E]);have K:∀n∈D.weights Tryz.prog 22,n<=reachBytes:=fun n hn=>by
  have:=List.all_eq_true.1 m n (DataW.weights_mem_each (j:=0) (t:=22) (d:=D) rfl rfl n hn);simpa using this
 obtain⟨xs,rfl,V⟩:=XS (x:=(D,L)) (by simpa[Value.cells] using hf) K;obtain⟨o,G,rfl⟩:=QB S;obtain⟨dp,li,F⟩:=Ky hL;obtain⟨M,last,o',g,X,g1,g2,g3,g4⟩:=l6 W (cap:=cap) (o:=o) G V (XT y V) F;refine⟨M,last,o',g,X,g1,g2,g3,g4.mono fun v Z=>?_⟩;obtain⟨rfl,u,d,J⟩:l5 W v g:=Z;have N:Below W.heap.size W {g with tape:=W.tape}:=⟨d.1,rfl,d.2,J,u⟩;refine⟨_,_,_,[],L++U,[],f,?_,?_,rfl,⟨d.1,d.2,fun i hi=>by rw[u i hi];split<;>simp_all⟩,fun h=>by cases h⟩
 .have I:Value.resultList Tryz.f6.resultTypes.size (.bool true)=[.bool true]:=rfl;rw[I];exact trodAll_mk1 (shut_bool Tryz.underlying4 _)
 .exact trodAll_mk2 (DataW.Trod.of_heap (w:={g with tape:=W.tape}) (w':=g) rfl (Below.trod LZ kR (of_decide_eq_true kR) C N z)) (DataW.Trod.of_heap (w:={g with tape:=W.tape}) (w':=g) rfl (Below.trod LZ kR (of_decide_eq_true kR) S N r))
end
end
end Go.Proofs.YtbephahokhnccaaGreatDoor
