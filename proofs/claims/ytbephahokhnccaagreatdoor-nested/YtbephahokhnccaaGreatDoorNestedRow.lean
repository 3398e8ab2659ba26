/- The law Nested returns true at every input, where the listed package-level variables hold what the row lists: the row. -/
import Derived.Test.YtbephahokhnccaaGreatDoorRows
import Derived.Test.YtbephahokhnccaaGreatDoorXM14toM16
import Derived.LaidMore
import Derived.SevenTiedAt
namespace Go.Proofs.YtbephahokhnccaaGreatDoor
open Go.ChangeShapes Go.WideShapes Go.RowKit Go.Conc Go.Mark

theorem own0 : ownKnob Tryz.prog.godebug = none:=by kernel_rfl
section
variable {H : Type} {enc : TypeId × Value → H}
/-- one good run from every start that meets a condition on memory -/
theorem Wy {a : Assume} {C : Checked} {os : Os} {f : FuncId} {fn : Func} {s : ChangeSpec} {conds : List PathCond} {apart fresh handsOn again : Bool} {X : World → Array Value → Prop} (hX : ∀ w w' args,w.heap = w'.heap → X w args → X w' args)
    (own : ownKnob C.prog.godebug = none) (started : os.Started) (hfn : C.prog.funcs[f]? = some fn)
    (witness : ∃ (w : World) (tape : Tape) (i : Input),w.os = os ∧ (w.forCall tape i).Shaped C.prog ∧ i.vars = [] ∧ Input.okWide C.prog (w.forCall tape i) .any w.heap.size f i ∧
      ((s.pre enc C.prog fn conds apart (w.forCall tape i).memory i.args ∧ X (w.forCall tape i).memory i.args) ∧ sizedMet enc C.prog fn (OpenSpec.ofChange s) apart (w.forCall tape i).memory i.args) ∧ a.holds C.prog (lone (Frame.enter C.prog f i.args .normal) [] (w.forCall tape i)))
    (runs : ∀ (W : World) (base : Nat) (args : Array Value) (ds gs : List (DataW H)) (before : List MemPlace),
      (∀ (j : Nat) t v,fn.params[j]? = some t → args[j]? = some v → Value.okWide C.prog W .any base t v) →
      DataW.Whole enc C.prog fn.params.toList s.vars apart W args.toList ds gs before → X W args →
      ∃ M last o w' t',runNT C.prog (M + 1) (solo (G (Frame.enter C.prog f args .normal) []) W) #[] = (.ended o w',t') ∧ runN C.prog M (solo (G (Frame.enter C.prog f args .normal) []) W) = .next last ∧
        step C.prog last = .ended o w' ∧ Conc.Good C.prog (fun v W'=>s.post enc C.prog fn apart fresh handsOn again W args v W') last o w' t') :
    ReturnsInLeavingWide a C os f .any (fun w args=>(s.pre enc C.prog fn conds apart w args ∧ X w args) ∧ sizedMet enc C.prog fn (OpenSpec.ofChange s) apart w args) (s.post enc C.prog fn apart fresh handsOn again):=by
  refine returnsInLeavingWide_of_good own started witness ?_
  intro w tape i _ _ _ hok hpre _
  obtain ⟨_,_,_,fn',hfn',_,_,_,_,hval⟩:=hok
  have e : fn' = fn:=Option.some.inj (hfn'.symm.trans hfn)
  subst e
  obtain ⟨⟨⟨ds,gs,before,hw,_⟩,hx⟩,_⟩:=hpre
  have hw':=DataW.Whole.of_heap (w':=w.forCall tape i) (by rfl) hw
  obtain ⟨M,last,o,w',t',h1,h2,h3,h4⟩:=runs (w.forCall tape i) w.heap.size i.args ds gs before hval hw' (hX _ _ _ (by rfl) hx)
  exact ⟨M,last,o,w',t',h1,h2,h3,h4.mono fun v hp=>ChangeSpec.post_blind hp⟩
end
theorem Ajw (os : Os) (args : Array Value) : laidMetH Tryz.prog Rows.nestedRow.laid ((World.doorLaid Tryz.prog 168 os).forCall (fun _ _=>0) ⟨#[],args,[]⟩).memory :=
  laidMetH_of_parts3 (fuel:=8) (laidMet_of_run' 8 (by kernel_rfl) (by kernel_rfl)) (by kernel_rfl) (by kernel_rfl)
theorem Arj {W : World} (h : laidMetH Tryz.prog Rows.nestedRow.laid W) : ∃ a d li ni,@Gb ⟨W.heap.size,W.heap.size,Nat.le_refl _⟩ W a d li ni:=by
  obtain ⟨hs,hh⟩:=laidMetH_iff.1 h
  have h1:=hs.filter (fun x=>x.1 == "purser/ledger.ErrLittle" || x.1 == "purser/machine.ErrNoInstruction")
  have e1 : (Rows.nestedRow.laid.filter fun x=>x.2.handleName?.isNone).filter (fun x=>x.1 == "purser/ledger.ErrLittle" || x.1 == "purser/machine.ErrNoInstruction") = [("purser/ledger.ErrLittle",Rows.laid_purser_ledger_ErrLittle),("purser/machine.ErrNoInstruction",Rows.laid_purser_machine_ErrNoInstruction)]:=by kernel_rfl
  rw [e1] at h1
  have h2:=hs.filter (fun x=>x.1 == "purser/ledger.ErrLittle" || x.1 == "purser/machine.ErrNoGas")
  have e2 : (Rows.nestedRow.laid.filter fun x=>x.2.handleName?.isNone).filter (fun x=>x.1 == "purser/ledger.ErrLittle" || x.1 == "purser/machine.ErrNoGas") = [("purser/ledger.ErrLittle",Rows.laid_purser_ledger_ErrLittle),("purser/machine.ErrNoGas",Rows.laid_purser_machine_ErrNoGas)]:=by kernel_rfl
  rw [e2] at h2
  have h3:=hs.filter (fun x=>x.1 == "purser/ledger.ErrLittle" || x.1 == "purser/machine.ErrDeep")
  have e3 : (Rows.nestedRow.laid.filter fun x=>x.2.handleName?.isNone).filter (fun x=>x.1 == "purser/ledger.ErrLittle" || x.1 == "purser/machine.ErrDeep") = [("purser/ledger.ErrLittle",Rows.laid_purser_ledger_ErrLittle),("purser/machine.ErrDeep",Rows.laid_purser_machine_ErrDeep)]:=by kernel_rfl
  rw [e3] at h3
  have h4:=hs.filter (fun x=>x.1 == "purser/machine.ErrNoInstruction" || x.1 == "purser/machine.ErrDeep")
  have e4 : (Rows.nestedRow.laid.filter fun x=>x.2.handleName?.isNone).filter (fun x=>x.1 == "purser/machine.ErrNoInstruction" || x.1 == "purser/machine.ErrDeep") = [("purser/machine.ErrNoInstruction",Rows.laid_purser_machine_ErrNoInstruction),("purser/machine.ErrDeep",Rows.laid_purser_machine_ErrDeep)]:=by kernel_rfl
  rw [e4] at h4
  have h5:=hs.filter (fun x=>x.1 == "purser/machine.ErrNoGas" || x.1 == "purser/machine.ErrDeep")
  have e5 : (Rows.nestedRow.laid.filter fun x=>x.2.handleName?.isNone).filter (fun x=>x.1 == "purser/machine.ErrNoGas" || x.1 == "purser/machine.ErrDeep") = [("purser/machine.ErrNoGas",Rows.laid_purser_machine_ErrNoGas),("purser/machine.ErrDeep",Rows.laid_purser_machine_ErrDeep)]:=by kernel_rfl
  rw [e5] at h5
  have e3 : (Rows.nestedRow.laid.filter fun x=>x.2.handleName?.isSome) = [("errors.errorType",Rows.laid_errors_errorType)]:=by kernel_rfl
  rw [e3] at hh
  refine Aro h1 h2 h3 h4 h5 ?_
  obtain ⟨name,u,ty,k1,k2,k3,k4,k5⟩:=hh _ (List.mem_singleton.2 rfl)
  have en : name = [101,114,114,111,114]:=(Option.some.inj k1).symm
  subst en
  obtain rfl:=Option.some.inj (rtp.symm.trans k2)
  have hm : ty ∈ (List.range 443).filter fun t=>Tryz.prog.rowNamed t [101,114,114,111,114]:=List.mem_filter.2 ⟨List.mem_range.2 (by rw [← tsz]; exact k3),k4⟩
  rw [An5] at hm
  obtain rfl:=List.mem_singleton.1 hm
  rw [hnd] at k5
  simpa using World.var?_cell gn4 k5 0
theorem Vf {x : Int} (h : (Lit.int .i64 x).wf = true) : -9223372036854775808 ≤ x ∧ x ≤ 9223372036854775807:=by
  simp [Lit.wf,IntKind.min,IntKind.max,IntKind.signed,IntKind.bits] at h
  omega
set_option maxRecDepth 100000 in
theorem Sa (os : Os) (started : os.Started) (H : Type) (enc : TypeId × Value → H) :
    ReturnsInLeavingWide {} Tryz.checked os 8 .any (fun w args=>(Rows.nestedSpec.pre enc Tryz.prog Tryz.f8 [] false w args ∧ laidMetH Tryz.prog Rows.nestedRow.laid w) ∧ sizedMet enc Tryz.prog Tryz.f8 (OpenSpec.ofChange Rows.nestedSpec) false w args) (Rows.nestedSpec.post enc Tryz.prog Tryz.f8 false true false false):=by
  refine Wy (C:=Tryz.checked) (X:=fun w _=>laidMetH Tryz.prog Rows.nestedRow.laid w) (fun _ _ _ hh h=>h.of_heap hh) own0 started Tryz.func8
    (ChangeSpec.witness_shaped (enc:=enc) (C:=Tryz.checked) (os:=os) (X:=fun w _=>laidMetH Tryz.prog Rows.nestedRow.laid w) false (World.doorLaid Tryz.prog 168 os) #[.int .i64 0,.int .i64 0,.bool false,.bool false] 8 rfl (World.shaped_of_RefB (by kernel_rfl) (by kernel_rfl)) (by kernel_rfl) (by kernel_rfl) (by kernel_rfl) (Ajw os _)) ?_
  intro W base args ds gs before hval0 hW hL
  have hval : ∀ (j : Nat) t v,Tryz.f8.params[j]? = some t → args[j]? = some v → Value.okWide Tryz.prog W .any base t v:=hval0
  have hW':=hW
  obtain ⟨p,q,hA0,hV,rfl,_,_⟩:=hW
  have hA : DataW.TrodAll enc Tryz.prog W 0 (fun _=>true) true Tryz.f8.params.toList args.toList ds p:=hA0
  rw [Tryz.params8] at hA hval
  obtain ⟨v0,v1,v2,v3,d0,d1,d2,d3,p0,p1,p2,p3,rfl,rfl,rfl,h0,h1,h2,h3⟩:=trodAll_four hA
  obtain ⟨rfl,rfl⟩:=trodVars_none hV
  obtain ⟨n,rfl,rfl,rfl,hwn⟩:=open_int Tryz.underlying3 (hval 0 3 v0 rfl rfl) h0
  obtain ⟨z,rfl,rfl,rfl,hwz⟩:=open_int Tryz.underlying3 (hval 1 3 v1 rfl rfl) h1
  obtain ⟨bad,rfl,rfl,rfl⟩:=open_bool Tryz.underlying4 (hval 2 4 v2 rfl rfl) h2
  obtain ⟨lent,rfl,rfl,rfl⟩:=open_bool Tryz.underlying4 (hval 3 4 v3 rfl rfl) h3
  clear hA0 hval0
  obtain ⟨a,d,li,ni,hgl⟩:=Arj hL
  obtain ⟨M,last,o,w',t',h1,h2,h3,h4⟩:=Ahv W n z bad lent (Vf hwn).1 (Vf hwn).2 (Vf hwz).1 (Vf hwz).2 hgl
  refine ⟨M,last,o,w',t',h1,h2,h3,h4.mono fun v hF=>?_⟩
  obtain ⟨rfl,hkw,hos,hup⟩ : Ag6 W v w':=hF
  refine ⟨_,_,_,[],[],[],hW',?_,?_,rfl,⟨hos.1,hos.2,fun i hi=>by rw [hkw i hi]; split <;> simp_all⟩,fun h=>by cases h⟩
  · have hrl : Value.resultList Tryz.f8.resultTypes.size (.bool true) = [.bool true]:=rfl
    rw [hrl]
    exact trodAll_mk1 (shut_bool Tryz.underlying4 _)
  · exact trodAll_mk4 (shut_int Tryz.underlying3 hwn) (shut_int Tryz.underlying3 hwz) (shut_bool Tryz.underlying4 _) (shut_bool Tryz.underlying4 _)
set_option maxRecDepth 100000
theorem j1 : Tryz.pinned.checked.prog.funcNamed Rows.nestedRow.func = some 8:=by kernel_rfl
set_option maxHeartbeats 0 in
theorem j2 : joinedFacts Tryz.pinned.checked.prog 8 Tryz.f8 Rows.nestedSpec Rows.nestedRow = true:=by
  unfold joinedFacts
  simp only [Bool.and_eq_true]
  and_intros
  all_goals (as_aux_lemma=>kernel_rfl)
theorem j3 : Tryz.f8.isInstance Tryz.pinned.checked.prog Rows.nestedRow.origin Rows.nestedRow.targs:=of_decide_eq_true (by kernel_rfl)
theorem j4 : Tryz.f8.isWrapper Tryz.pinned.checked.prog Rows.nestedRow.wrapper Rows.nestedRow.mainSum:=by unfold Func.isWrapper; first | (rw [if_pos (by decide +kernel)]; kernel_rfl) | (rw [if_neg (by decide +kernel)]; exact ⟨rfl,rfl⟩)
theorem nested_holds : Rows.NestedSaid :=
  OpenClaim.holds_of_wide_leaving 8 Tryz.f8 rfl rfl rfl rfl rfl rfl rfl ⟨rfl,rfl,rfl,rfl,rfl⟩ rfl rfl rfl rfl rfl j1 Tryz.func8 j2 j3 j4
    (fun os started H enc _=>Sa os started H enc)
end Go.Proofs.YtbephahokhnccaaGreatDoor
