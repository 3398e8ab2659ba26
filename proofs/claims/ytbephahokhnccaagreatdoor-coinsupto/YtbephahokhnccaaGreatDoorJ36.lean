import Derived.Test.YtbephahokhnccaaGreatDoorRows
import Derived.LaidMore
import Derived.SevenTiedAt
import Derived.Test.YtbephahokhnccaaGreatDoorJ35
set_option linter.all false
namespace Go.Proofs.YtbephahokhnccaaGreatDoor
section
open Go.ChangeShapes Go.WideShapes Go.RowKit Go.Conc Go.Mark
section
theorem O4:ownKnob Tryz.prog.godebug=none:=kR
theorem LZ:laidOutB Tryz.prog=true:=kR
theorem Ts {H:Type} (d:DataW H):1<=Rows.uptoBulk d:=by
 cases d with
 |lit l=>cases l<;>simp[Rows.uptoBulk]
 |_=>simp[Rows.uptoBulk]
theorem Sr {H:Type}:∀l:List (DataW H),l.length<=Rows.uptoBulkAll l
 | []=>Nat.le_refl _
 |d::l=>by have:=Ts d;have:=Sr l;simp only[List.length_cons,Rows.uptoBulkAll];exact oM
theorem Ss {H:Type}:∀l:List (DataW H),(∀d∈l,∃ps,d=.agg ps/\ps.length=8)->9*l.length<=Rows.uptoBulkAll l
 | [],_=>Nat.le_refl _
 |d::l,h=>by
  obtain⟨ps,rfl,hp⟩:=h d List.mem_cons_self;have:=Sr ps;have:=Ss l fun e he=>h e (List.mem_cons_of_mem _ he);simp only[List.length_cons,Rows.uptoBulkAll,Rows.uptoBulk];exact oM
theorem Ua:((begin Tryz.prog (fun _ _=>0) default).world.heap[0]?).bind Obj.row? =some (#[.nilIface],36):=kR
theorem Kz:0<Tryz.prog.globals.size:=of_decide_eq_true kR
theorem mh (os:Os) (args:Array Value):laidMetH Tryz.prog Rows.coinsUptoRow.laid ((World.doorLaid Tryz.prog 168 os).forCall (fun _ _=>0) ⟨#[],args,[]⟩).memory:=
 laidMetH_of_parts3 (fuel:=8) (laidMet_of_run' 8 kR kR) kR kR
theorem Ky {W:World} (h:laidMetH Tryz.prog Rows.coinsUptoRow.laid W):∃dp li, @Ge ⟨W.heap.size,W.heap.size,Nat.le_refl _⟩ W dp li:=by
 obtain⟨hs,hh⟩:=laidMetH_iff.1 h;have pick:∀(a b:String) (x y:DataW Unit),(Rows.coinsUptoRow.laid.filter fun x=>x.2.handleName?.isNone).filter (fun x=>x.1==a||x.1==b)=[(a,x),(b,y)]->laidMet Tryz.prog [(a,x),(b,y)] W:=fun a b x y e=>by
  have h1:=hs.filter (fun x=>x.1==a||x.1==b);rw[e] at h1;exact h1
 have e3:(Rows.coinsUptoRow.laid.filter fun x=>x.2.handleName?.isSome)=[("errors.errorType",Rows.laid_errors_errorType)]:=kR
 rw[e3] at hh;refine Km (pick _ _ Rows.laid_purser_ledger_ErrLittle Rows.laid_purser_machine_ErrDeep kR) (fun q hq=>?_) ?_
 .simp only[List.mem_cons,List.not_mem_nil,or_false] at hq;rcases hq with rfl|rfl|rfl|rfl|rfl|rfl
  .exact⟨_,pick _ _ Rows.laid_purser_ledger_ErrLittle Rows.laid_purser_machine_ErrNoGas kR,pick _ _ Rows.laid_purser_machine_ErrNoGas Rows.laid_purser_machine_ErrDeep kR⟩
  .exact⟨_,pick _ _ Rows.laid_purser_ledger_ErrLittle Rows.laid_purser_machine_ErrLongCode kR,pick _ _ Rows.laid_purser_machine_ErrLongCode Rows.laid_purser_machine_ErrDeep kR⟩
  .exact⟨_,pick _ _ Rows.laid_purser_ledger_ErrLittle Rows.laid_purser_machine_ErrNoInstruction kR,pick _ _ Rows.laid_purser_machine_ErrNoInstruction Rows.laid_purser_machine_ErrDeep kR⟩
  .exact⟨_,pick _ _ Rows.laid_purser_ledger_ErrLittle Rows.laid_purser_machine_ErrFewWords kR,pick _ _ Rows.laid_purser_machine_ErrFewWords Rows.laid_purser_machine_ErrDeep kR⟩
  .exact⟨_,pick _ _ Rows.laid_purser_ledger_ErrLittle Rows.laid_purser_machine_ErrManyWords kR,pick _ _ Rows.laid_purser_machine_ErrManyWords Rows.laid_purser_machine_ErrDeep kR⟩
  .exact⟨_,pick _ _ Rows.laid_purser_ledger_ErrLittle Rows.laid_purser_machine_ErrNoMark kR,pick _ _ Rows.laid_purser_machine_ErrNoMark Rows.laid_purser_machine_ErrDeep kR⟩
 .obtain⟨name,u,ty,k1,k2,k3,k4,k5⟩:=hh _ (List.mem_singleton.2 rfl);have en:name=[101,114,114,111,114]:=(Option.some.inj k1).symm;subst en;obtain rfl:=Option.some.inj (Qx.symm.trans k2);have hm:ty∈(List.range 443).filter fun t=>Tryz.prog.rowNamed t [101,114,114,111,114]:=List.mem_filter.2 ⟨List.mem_range.2 (by rw[<-Qw];exact k3),k4⟩;rw[E2] at hm;obtain rfl:=List.mem_singleton.1 hm;rw[lY] at k5;simpa using World.var?_cell Qv k5 0
theorem S3 {H:Type} (enc:TypeId×Value->H) (os:Os):DataW.whole enc Tryz.prog ((World.doorLaid Tryz.prog 168 os).forCall (fun _ _=>0) ⟨#[],#[.slice none 0 0,.slice none 0 0],[]⟩).memory Tryz.f7.params.toList [] false [.slice none 0 0,.slice none 0 0] 8=some ([.nil,.nil],[],[]):=kR
set_option maxRecDepth 100000 in
theorem Ry {H:Type} {enc:TypeId×Value->H} {W:World} {base:Nat} {args:Array Value} {ds gs:List (DataW H)} {before:List MemPlace} (hval:∀(j:Nat) t v,Tryz.f7.params[j]?=some t->args[j]?=some v->Value.okWide Tryz.prog W .any base t v) (hW:DataW.Whole enc Tryz.prog Tryz.f7.params.toList [] false W args.toList ds gs before) (hk:Rows.uptoBulkAll (ds++gs)<=1048576) (hL:laidMetH Tryz.prog Rows.coinsUptoRow.laid W) (hsz:(DataW.weightsEach Tryz.prog (Tryz.f7.params.toList++Rows.coinsSpec.plain.varTypes Tryz.prog) (ds++gs)).all (· <=reachBytes)=true) (hsh:W.ShapedOpen Tryz.prog):
  ∃M last o w' t',runNT Tryz.prog (M+1) (solo (G (Frame.enter Tryz.prog 7 args .normal) []) W) #[]=(.ended o w',t')/\runN Tryz.prog M (solo (G (Frame.enter Tryz.prog 7 args .normal) []) W)=.next last/\step Tryz.prog last=.ended o w'/\Conc.Good Tryz.prog (fun v W'=>Rows.coinsSpec.post enc Tryz.prog Tryz.f7 false true false false W args v W') last o w' t':=by
 have hW':=hW;obtain⟨p,q,hA0,hV,rfl,_,_⟩:=hW;have hA:DataW.TrodAll enc Tryz.prog W 0 (fun _=>true) true Tryz.f7.params.toList args.toList ds p:=hA0;rw[Tryz.params7] at hA hval hsz;obtain⟨v0,v1,d0,d1,p0,p1,rfl,rfl,rfl,h0,h1⟩:=trodAll_two hA;obtain⟨rfl,rfl⟩:=trodVars_none hV;have hv0:=hval 0 22 v0 rfl rfl;obtain⟨a0,len,cap,rfl⟩:=okWide_slice Tryz.underlying22 hv0;obtain⟨b0,lenb,capb,rfl⟩:=okWide_slice Tryz.underlying57 (hval 1 57 v1 rfl rfl)
 have h0k:=h0;obtain⟨fuel,hf⟩:=h0;have h1k:=h1;obtain⟨fuel1,hf1⟩:=h1;clear hA0;simp only[List.append_nil] at hW';have hlt0:∀x∈p0,x.block<W.heap.size:=fun x hx=>hW'.lt x (by simp[hx]);have hlt1:∀x∈p1,x.block<W.heap.size:=fun x hx=>hW'.lt x (by simp[hx]);have hwt:∀n∈d0.weights Tryz.prog 22,n<=reachBytes:=fun n hn=>by
  have:=List.all_eq_true.1 hsz n (DataW.weights_mem_each (j:=0) (t:=22) (d:=d0) rfl rfl n hn);simpa using this
 obtain⟨xs,rfl,hI⟩:=XS (x:=(d0,p0)) (by simpa[Value.cells] using hf) hwt;obtain⟨os,hO,hB⟩:=Rf (x:=(d1,p1)) (by simpa[Value.cells] using hf1);have hbd:os.length<=200000:=by
  rcases hB with rfl| ⟨Ds,Sp,e1,e2,e3⟩
  .exact Nat.zero_le _
  .have h9:=Ss Ds e3;simp only[List.cons_append,List.nil_append,Rows.uptoBulkAll] at hk;have e1':d1=.slice Ds Sp:=e1
   rw[e1'] at hk;simp only[Rows.uptoBulk] at hk;exact oM
 obtain⟨c0,r1,r2,_⟩:=hsh.1 0 _ 36 Kz Ua;obtain⟨dp,li,hgl⟩:=Ky hL;obtain⟨M,last,o',w',t',g1,g2,g3,g4⟩:=R8 W (vi:=⟨a0,xs.length,cap⟩) (vo:=⟨b0,lenb,capb⟩) hI rfl (XT hv0 hI) ⟨c0,36,_,r1,by decide,by rw[r2];decide⟩ hO hbd hgl;refine⟨M,last,o',w',t',g1,g2,g3,g4.mono fun v hF=>?_⟩;obtain⟨rfl,hkw,hos,hup⟩:l5 W v w':=hF;have hb:Below W.heap.size W {w' with tape:=W.tape}:=⟨hos.1,rfl,hos.2,hup,hkw⟩;refine⟨_,_,_,[],p0++p1,[],hW',?_,?_,rfl,⟨hos.1,hos.2,fun i hi=>by rw[hkw i hi];split<;>simp_all⟩,fun h=>by cases h⟩
 .have hrl:Value.resultList Tryz.f7.resultTypes.size (.bool true)=[.bool true]:=rfl;rw[hrl];exact trodAll_mk1 (shut_bool Tryz.underlying4 _)
 .exact trodAll_mk2 (DataW.Trod.of_heap (w:={w' with tape:=W.tape}) (w':=w') rfl (Below.trod LZ kR (of_decide_eq_true kR) h0k hb hlt0)) (DataW.Trod.of_heap (w:={w' with tape:=W.tape}) (w':=w') rfl (Below.trod LZ kR (of_decide_eq_true kR) h1k hb hlt1))
set_option maxRecDepth 100000 in
theorem G6 (os:Os) (started:os.Started) (H:Type) (enc:TypeId×Value->H):
  ReturnsInLeavingWide {} Tryz.checked os 7 .any (fun w args=>((Rows.OpenSpec.upto Rows.coinsSpec).pre enc Tryz.prog Tryz.f7 [] false w args/\laidMetH Tryz.prog Rows.coinsUptoRow.laid w)/\sizedMet enc Tryz.prog Tryz.f7 (Rows.OpenSpec.upto Rows.coinsSpec) false w args) (Rows.coinsSpec.post enc Tryz.prog Tryz.f7 false true false false):=by
 refine returnsInLeavingWide_of_good (C:=Tryz.checked) O4 started ?_ ?_
 .obtain⟨w,tape,i,h1,h2,h3,h4,⟨⟨h5,h6,h7⟩,h8⟩,h9⟩:=ChangeSpec.witness_shaped (enc:=enc) (C:=Tryz.checked) (os:=os) (s:=Rows.coinsSpec) (fn:=Tryz.f7) (f:=7) (conds:=[]) (apart:=false) (X:=fun w args=>laidMetH Tryz.prog Rows.coinsUptoRow.laid w/\(Rows.OpenSpec.upto Rows.coinsSpec).pre enc Tryz.prog Tryz.f7 [] false w args) false (World.doorLaid Tryz.prog 168 os) #[.slice none 0 0,.slice none 0 0] 8 rfl (World.shaped_of_RefB kR kR) kR kR kR ⟨mh os _,(OpenSpec.pre_some rfl _ _ _ _).2 ⟨_,_,_,DataW.Whole_of_whole (S3 enc os),rfl,rfl⟩⟩
  exact⟨w,tape,i,h1,h2,h3,h4,⟨⟨h7,h6⟩,h8⟩,h9⟩
 .intro w tape i _ hsh _ hok hpre _;obtain⟨_,_,_,fn',hfn',_,_,_,_,hval0⟩:=hok;have e:fn'=Tryz.f7:=Option.some.inj (hfn'.symm.trans Tryz.func7);subst e;obtain⟨⟨hp0,hL0⟩,hz⟩:=hpre;obtain⟨ds,gs,before,hw0,_,hk⟩:=(OpenSpec.pre_some rfl _ _ _ _).1 hp0;obtain⟨M,last,o,w',t',h1,h2,h3,h4⟩:=Ry hval0 (DataW.Whole.of_heap (w':=w.forCall tape i) rI hw0) (of_decide_eq_true hk) (hL0.of_heap rI) (hz.weights hw0) hsh;exact⟨M,last,o,w',t',h1,h2,h3,h4.mono fun v hp=>ChangeSpec.post_blind hp⟩
end
end
end Go.Proofs.YtbephahokhnccaaGreatDoor
