import Derived.Test.YtbephahokhnccaaGreatDoorXD10toD11
set_option linter.unusedSectionVars false
set_option maxRecDepth 100000
set_option maxHeartbeats 8000000
namespace Go.Phase
open Go.Conc Go.Walk Go.RowKit Go.Conc.Lib Go.ConcR.Gen Go.ConcN.Gen Go.Lift
open Go.ConcN (WgLive)
open Go.ConcR (KK WgAt stA smA rd wr mk Payload)
variable [Payload] {L : WgLink}
theorem Aqm {c : Cfg} (H : WgLib c.P L) {Low : Nat} {X : World -> Prop} (hX : ∀ w w₁,X w -> R0 c w w₁ -> X w₁) {b₀ : Frame} {a₀ : Act} {ops₀ : Array Oper} {i₀ : Nat} {rest₀ : List Nat} {k₀ : List Item} {cs : List Frame} (hty : c.ty = L.tWg)
  (hAnch : ∀ g w,AnchWN L X c.Wg (b₀.at a₀ (.inRegion ops₀ (i₀ :: rest₀) :: k₀)) cs g w -> c.Anch Low g w)
  (hThen : ∀ g w,X w -> WgLive c.ty c.Wg w -> Goes c.P true AtRel Kk (fun g' _=>g' = G (b₀.at (a₀.put ((ops₀[i₀]?).bind (·.dst)) (.tuple #[])) (.inRegion ops₀ rest₀ :: k₀)) cs) 40 g w -> c.Then g w) (g : Goroutine) (w : World) (h : AnchWN L X c.Wg (b₀.at a₀ (.inRegion ops₀ (i₀ :: rest₀) :: k₀)) cs g w) :
  ∃ m,Goes c.P true (R0 c) (D0 c Low) (AtW1 c Low) m g w:=by
 lib_facts
 have E:=envX c Low hX
 obtain ⟨T,rfl,hT84,t0,hF0⟩:=h
 rw [<- hty] at hF0
 obtain ⟨v0,v1,v2,v3,v4,v5,v6,v7,v8,v9,v10,v11,v12,v13,v14,v15,v16,v17,v18,v19,v20,v21,v22,v23,v24,v25,v26,v27,v28,v29,v30,v31,v32,v33,v34,v35,v36,v37,v38,v39,v40,v41,v42,v43,v44,v45,v46,v47,v48,v49,v50,v51,v52,v53,v54,v55,v56,v57,v58,v59,v60,v61,v62,v63,v64,v65,v66,v67,v68,v69,v70,v71,v72,v73,v74,v75,v76,v77,v78,v79,v80,v81,v82,v83,rfl⟩:=array84 T hT84
 simp only [List.getElem?_toArray,List.getElem?_cons_zero,Option.some.injEq] at t0
 subst t0
 clear hT84
 refine ⟨60,?_⟩
 revert hF0
 generalize w = w
 revert w
 show GoW c.P true (R0 c) (D0 c Low) (AtW1 c Low) (fun w=>X w /\ WgLive c.ty c.Wg w) 60 _
 simp only [L7,body_wait,waitFn,Option.getD_some]
 repeat (first
  | refine Bj E ?_
  | refine Co E ?_
  | refine Ah E ?_
  | refine Ar E ?_
  | refine Ay E ?_
  | refine Ck E ?_
  | refine Bf E ?_
  | refine Bi E ?_
  | refine Bh E ?_
  | refine Az E ?_
  | refine Cv E ?_
  | refine A8 E rfl ?_
  | refine Bg E rfl ?_
  | (refine Bn E rfl rfl ?_; walk_nrm)
  | refine Cc E ?_
  | refine Bv E ?_
  | refine Bq E ?_
  | refine Di E ?_
  | (refine Df E rfl rfl (by k_ne) rfl H.f_uLoad (nm_uLoad L) rfl ?_; walk_nrmf uLoadFn)
  | (refine A9 E rfl rfl (by k_ne) (fun w hF K hK=>?_); go_simp; refine hK _ (by simp [go_sem, *]) ?_; clear hK K hF w; try w_num))
 refine Bp E (fun w hF=>⟨rfl,fun v hv hw=>?_⟩)
 rcases Nat.eq_zero_or_pos v with rfl | hvp
 ·replace hw : WgAt c.ty c.Wg w 0 0:=by simpa using hw
  refine ⟨_,stepG_load_atomic (v:=0) rfl rfl (by k_ne) rfl H.f_loadU64 (x_loadU64_n L) (x_loadU64_b L) (x_loadU64_x L) .u64 (x_loadU64_f L) rfl hw.cellSt,fun _=>⟨80,?_⟩,fun h=>absurd rfl h⟩
  clear hw hv
  revert w
  show GoW c.P true (R0 c) (D0 c Low) (AtKe c Low) (fun w=>X w /\ WgLive c.ty c.Wg w) 80 _
  walk_nrm
  repeat (first
   | refine Bj E ?_
   | refine Co E ?_
   | refine Ah E ?_
   | refine Ar E ?_
   | refine Ay E ?_
   | refine Ck E ?_
   | refine Bf E ?_
   | refine Bi E ?_
   | refine Bh E ?_
   | refine Az E ?_
   | refine Cv E ?_
   | refine A8 E rfl ?_
   | refine Bg E rfl ?_
   | (refine Bn E rfl rfl ?_; walk_nrm)
   | refine Cc E ?_
   | refine Bv E ?_
   | refine Bq E ?_
   | refine Di E ?_
   | (refine Dp E rfl rfl H.f_uLoad rfl ?_; walk_nrm)
   | (refine A9 E rfl rfl (by k_ne) (fun w hF K hK=>?_); go_simp; refine hK _ (by simp [go_sem, *]) ?_; clear hK K hF w; try w_num))
  refine Bp E (fun w hF=>?_)
  refine ⟨rfl,_,stepG_mark0 .enable (by simp) rfl rfl (by k_ne) rfl H.f_enable (x_enable_n L) (x_enable_b L) (x_enable_x L) (x_enable_f L),30,?_⟩
  revert w
  show GoW c.P true (R0 c) (D0 c Low) (AtAcq c) (fun w=>X w /\ WgLive c.ty c.Wg w) 30 _
  walk_nrm
  repeat (first
   | refine Bj E ?_
   | refine Co E ?_
   | refine Ah E ?_
   | refine Ar E ?_
   | refine Ay E ?_
   | refine Ck E ?_
   | refine Bf E ?_
   | refine Bi E ?_
   | refine Bh E ?_
   | refine Az E ?_
   | refine Cv E ?_
   | refine A8 E rfl ?_
   | refine Bg E rfl ?_
   | (refine Bn E rfl rfl ?_; walk_nrm)
   | refine Cc E ?_
   | refine Bv E ?_
   | refine Bq E ?_
   | refine Di E ?_
   | (refine Jl E rfl rfl (by k_ne) rfl rfl H.underlying_tWgP H.underlying_tUP H.room_tWg (fun w hF=>Acm hF.2) ?_; walk_nrm)
   | (refine A9 E rfl rfl (by k_ne) (fun w hF K hK=>?_); go_simp; refine hK _ (by simp [go_sem, *]) ?_; clear hK K hF w; try w_num))
  refine Bp E (fun w hF=>?_)
  refine ⟨rfl,_,stepG_markAt .acquire (by simp) rfl rfl (by k_ne) rfl H.f_acquire (x_acquire_n L) (x_acquire_b L) (x_acquire_x L) (x_acquire_f L) (by simp [Act.eval,stA]),hThen _ _ hF.1 hF.2 ?_⟩
  revert w
  show GoW c.P true AtRel Kk _ (fun w=>X w /\ WgLive c.ty c.Wg w) 40 _
  replace E:=envA c hX
  walk_nrm
  repeat (first
   | refine Bj E ?_
   | refine Co E ?_
   | refine Ah E ?_
   | refine Ar E ?_
   | refine Ay E ?_
   | refine Ck E ?_
   | refine Bf E ?_
   | refine Bi E ?_
   | refine Bh E ?_
   | refine Az E ?_
   | refine Cv E ?_
   | refine A8 E rfl ?_
   | refine Bg E rfl ?_
   | (refine Bn E rfl rfl ?_; walk_nrm)
   | refine Cc E ?_
   | refine Bv E ?_
   | refine Bq E ?_
   | refine Di E ?_
   | (refine A9 E rfl rfl (by k_ne) (fun w hF K hK=>?_); go_simp; refine hK _ (by simp [go_sem, *]) ?_; clear hK K hF w; try w_num))
  refine Gj E rfl rfl H.f_wait rfl ?_
  exact Bp E (fun w _=>rfl)
 ·obtain ⟨S,hS⟩ : ∃ S : Int,(v : Int) * KK = S:=⟨_,rfl⟩
  have a1 : S / 4294967296 = (v : Int):=by rw [<- hS]; simp only [KK]; omega
  have b1 : bits .and .u64 S 2147483648 = 0:=by rw [<- hS]; have:=Go.ConcN.st_flag v 0 (by omega) (by omega); simpa [KK] using this
  have b2 : bits .and .u64 S 2147483647 = 0:=by rw [<- hS]; have:=Go.ConcN.st_waiters v 0 (by omega) (by omega); simpa [KK] using this
  have c1 : IntKind.i32.wrap (v : Int) = (v : Int):=by rw [IntKind.wrap_i32]; omega
  have w1 : IntKind.u64.wrap (S + 1) = S + 1:=by rw [IntKind.wrap_u64,<- hS]; simp only [KK]; omega
  have q3 : decide ((v : Int) < 0) = false:=decide_eq_false (by omega)
  have q4 : decide (0 < (v : Int)) = true:=decide_eq_true (by omega)
  have q5 : ((v : Int) == 0) = false:=by simp; omega
  have q6 : decide ((v : Int) = 0) = false:=decide_eq_false (by omega)
  rw [hS] at hw
  refine ⟨_,stepG_load_atomic (v:=S) rfl rfl (by k_ne) rfl H.f_loadU64 (x_loadU64_n L) (x_loadU64_b L) (x_loadU64_x L) .u64 (x_loadU64_f L) rfl hw.cellSt,fun h0=>absurd h0 (by omega),fun _=>⟨90,?_⟩⟩
  clear hw
  revert w
  show GoW c.P true (R0 c) (D0 c Low) (AtW2 c Low v) (fun w=>X w /\ WgLive c.ty c.Wg w) 90 _
  walk_nrm
  repeat (first
   | refine Bj E ?_
   | refine Co E ?_
   | refine Ah E ?_
   | refine Ar E ?_
   | refine Ay E ?_
   | refine Ck E ?_
   | refine Bf E ?_
   | refine Bi E ?_
   | refine Bh E ?_
   | refine Az E ?_
   | refine Cv E ?_
   | refine A8 E rfl ?_
   | refine Bg E rfl ?_
   | (refine Bn E rfl rfl ?_; walk_nrm)
   | refine Cc E ?_
   | refine Bv E ?_
   | refine Bq E ?_
   | refine Di E ?_
   | refine A8 E (by simp [Act.eval]; omega) ?_
   | refine Bg E (by simp [Act.eval]; omega) ?_
   | (refine Df E rfl rfl (by k_ne) rfl H.f_uCas (nm_uCas L) rfl ?_; walk_nrmf uCasFn)
   | (refine Dp E rfl rfl H.f_uLoad rfl ?_; walk_nrm)
   | (refine A9 E rfl rfl (by k_ne) (fun w hF K hK=>?_); go_simp; refine hK _ (by simp [go_sem, *]) ?_; clear hK K hF w; try w_num))
  refine Bp E (fun w hF=>⟨rfl,fun v' hv' hw=>⟨fun e=>?_,fun e=>?_⟩⟩)
  ·subst e
   rw [hS] at hw ⊢
   refine ⟨_,(stepG_cas_hit (v:=S) (n:=S + 1) rfl rfl (by k_ne) rfl H.f_casU64 (x_casU64_n L) (x_casU64_b L) (x_casU64_x L) .u64 (x_casU64_f L) rfl rfl rfl hw.cellSt (hw.thaw 0)).trans (by rfl),90,?_⟩
   have hl : WgLive c.ty c.Wg (w.setCell (stA c.Wg) (.int .u64 (S + 1))):=⟨_,_,hw.setSt _⟩
   have hF2 : X (w.setCell (stA c.Wg) (.int .u64 (S + 1))) /\ WgLive c.ty c.Wg (w.setCell (stA c.Wg) (.int .u64 (S + 1))):=⟨hX _ _ hF.1 (Qe (aside_setCell w (stA c.Wg) _) hl),hl⟩
   generalize w.setCell (stA c.Wg) (.int .u64 (S + 1)) = w' at hF2 ⊢
   clear hw hF hl w
   revert w'
   show GoW c.P true (R0 c) (D0 c Low) (AtW3 c Low) (fun w=>X w /\ WgLive c.ty c.Wg w) 90 _
   walk_nrm
   repeat (first
    | refine Bj E ?_
    | refine Co E ?_
    | refine Ah E ?_
    | refine Ar E ?_
    | refine Ay E ?_
    | refine Ck E ?_
    | refine Bf E ?_
    | refine Bi E ?_
    | refine Bh E ?_
    | refine Az E ?_
    | refine Cv E ?_
    | refine A8 E rfl ?_
    | refine Bg E rfl ?_
    | (refine Bn E rfl rfl ?_; walk_nrm)
    | refine Cc E ?_
    | refine Bv E ?_
    | refine Bq E ?_
    | refine Di E ?_
    | (refine Dp E rfl rfl H.f_uCas rfl ?_; walk_nrm)
    | (refine Jl E rfl rfl (by k_ne) rfl rfl H.underlying_tPU32 H.underlying_tUP H.room_tU32 (fun w hF=>Amw hF.2) ?_; walk_nrm)
    | (refine Amz E rfl (fun w _=>stepG_markAt .write (by simp) rfl rfl (by k_ne) rfl H.f_raceWrite (x_raceWrite_n L) (x_raceWrite_b L) (x_raceWrite_x L) (x_raceWrite_f L) (ad:=⟨c.Wg,1,none⟩) (by simp [Act.eval])) (fun w _=>Ajz c Low w _ rfl) ?_; walk_nrm)
    | (refine A9 E rfl rfl (by k_ne) (fun w hF K hK=>?_); go_simp; refine hK _ (by simp [go_sem, *]) ?_; clear hK K hF w; try w_num))
   refine Bp E (fun w hF=>?_)
   refine ⟨rfl,rfl,fun ⟨st,hw⟩=>stepG_semacquire_wait rfl rfl rfl H.f_semacquire (x_semacquire_n L) (x_semacquire_b L) (x_semacquire_x L) (x_semacquire_f L) (by simp [Act.eval,smA]) hw.cellSm,fun hf=>?_⟩
   refine ⟨_,(stepG_semacquire (n:=1) rfl rfl (by k_ne) rfl H.f_semacquire (x_semacquire_n L) (x_semacquire_b L) (x_semacquire_x L) (x_semacquire_f L) (by simp [Act.eval,smA]) hf.cellSm (by k_ne) (hf.thaw 1)).trans (by rfl),60,?_⟩
   have hl : WgLive c.ty c.Wg (w.setCell (smA c.Wg) (.int .u32 0)):=⟨_,_,hf.setSm 0⟩
   have hF2 : X (w.setCell (smA c.Wg) (.int .u32 0)) /\ WgLive c.ty c.Wg (w.setCell (smA c.Wg) (.int .u32 0)):=⟨hX _ _ hF.1 (Qe (aside_setCell w (smA c.Wg) _) hl),hl⟩
   generalize w.setCell (smA c.Wg) (.int .u32 0) = w' at hF2 ⊢
   clear hf hF hl w
   revert w'
   show GoW c.P true (R0 c) (D0 c Low) (AtW4 c Low) (fun w=>X w /\ WgLive c.ty c.Wg w) 60 _
   walk_nrm
   repeat (first
    | refine Bj E ?_
    | refine Co E ?_
    | refine Ah E ?_
    | refine Ar E ?_
    | refine Ay E ?_
    | refine Ck E ?_
    | refine Bf E ?_
    | refine Bi E ?_
    | refine Bh E ?_
    | refine Az E ?_
    | refine Cv E ?_
    | refine A8 E rfl ?_
    | refine Bg E rfl ?_
    | (refine Bn E rfl rfl ?_; walk_nrm)
    | refine Cc E ?_
    | refine Bv E ?_
    | refine Bq E ?_
    | refine Di E ?_
    | (refine Df E rfl rfl (by k_ne) rfl H.f_uLoad (nm_uLoad L) rfl ?_; walk_nrmf uLoadFn)
    | (refine A9 E rfl rfl (by k_ne) (fun w hF K hK=>?_); go_simp; refine hK _ (by simp [go_sem, *]) ?_; clear hK K hF w; try w_num))
   refine Bp E (fun w hF=>⟨rfl,fun hw=>⟨_,stepG_load_atomic (v:=0) rfl rfl (by k_ne) rfl H.f_loadU64 (x_loadU64_n L) (x_loadU64_b L) (x_loadU64_x L) .u64 (x_loadU64_f L) rfl hw.cellSt,60,?_⟩⟩)
   clear hw
   revert w
   show GoW c.P true (R0 c) (D0 c Low) (AtKe c Low) (fun w=>X w /\ WgLive c.ty c.Wg w) 60 _
   walk_nrm
   repeat (first
    | refine Bj E ?_
    | refine Co E ?_
    | refine Ah E ?_
    | refine Ar E ?_
    | refine Ay E ?_
    | refine Ck E ?_
    | refine Bf E ?_
    | refine Bi E ?_
    | refine Bh E ?_
    | refine Az E ?_
    | refine Cv E ?_
    | refine A8 E rfl ?_
    | refine Bg E rfl ?_
    | (refine Bn E rfl rfl ?_; walk_nrm)
    | refine Cc E ?_
    | refine Bv E ?_
    | refine Bq E ?_
    | refine Di E ?_
    | (refine Dp E rfl rfl H.f_uLoad rfl ?_; walk_nrm)
    | (refine A9 E rfl rfl (by k_ne) (fun w hF K hK=>?_); go_simp; refine hK _ (by simp [go_sem, *]) ?_; clear hK K hF w; try w_num))
   refine Bp E (fun w hF=>?_)
   refine ⟨rfl,_,stepG_mark0 .enable (by simp) rfl rfl (by k_ne) rfl H.f_enable (x_enable_n L) (x_enable_b L) (x_enable_x L) (x_enable_f L),30,?_⟩
   revert w
   show GoW c.P true (R0 c) (D0 c Low) (AtAcq c) (fun w=>X w /\ WgLive c.ty c.Wg w) 30 _
   walk_nrm
   repeat (first
    | refine Bj E ?_
    | refine Co E ?_
    | refine Ah E ?_
    | refine Ar E ?_
    | refine Ay E ?_
    | refine Ck E ?_
    | refine Bf E ?_
    | refine Bi E ?_
    | refine Bh E ?_
    | refine Az E ?_
    | refine Cv E ?_
    | refine A8 E rfl ?_
    | refine Bg E rfl ?_
    | (refine Bn E rfl rfl ?_; walk_nrm)
    | refine Cc E ?_
    | refine Bv E ?_
    | refine Bq E ?_
    | refine Di E ?_
    | (refine Jl E rfl rfl (by k_ne) rfl rfl H.underlying_tWgP H.underlying_tUP H.room_tWg (fun w hF=>Acm hF.2) ?_; walk_nrm)
    | (refine A9 E rfl rfl (by k_ne) (fun w hF K hK=>?_); go_simp; refine hK _ (by simp [go_sem, *]) ?_; clear hK K hF w; try w_num))
   refine Bp E (fun w hF=>?_)
   refine ⟨rfl,_,stepG_markAt .acquire (by simp) rfl rfl (by k_ne) rfl H.f_acquire (x_acquire_n L) (x_acquire_b L) (x_acquire_x L) (x_acquire_f L) (by simp [Act.eval,stA]),hThen _ _ hF.1 hF.2 ?_⟩
   revert w
   show GoW c.P true AtRel Kk _ (fun w=>X w /\ WgLive c.ty c.Wg w) 40 _
   replace E:=envA c hX
   walk_nrm
   repeat (first
    | refine Bj E ?_
    | refine Co E ?_
    | refine Ah E ?_
    | refine Ar E ?_
    | refine Ay E ?_
    | refine Ck E ?_
    | refine Bf E ?_
    | refine Bi E ?_
    | refine Bh E ?_
    | refine Az E ?_
    | refine Cv E ?_
    | refine A8 E rfl ?_
    | refine Bg E rfl ?_
    | (refine Bn E rfl rfl ?_; walk_nrm)
    | refine Cc E ?_
    | refine Bv E ?_
    | refine Bq E ?_
    | refine Di E ?_
    | (refine A9 E rfl rfl (by k_ne) (fun w hF K hK=>?_); go_simp; refine hK _ (by simp [go_sem, *]) ?_; clear hK K hF w; try w_num))
   refine Gj E rfl rfl H.f_wait rfl ?_
   exact Bp E (fun w _=>rfl)
  ·refine ⟨_,stepG_cas_miss (v:=(v' : Int) * KK) (old:=S) (n:=S + 1) rfl rfl (by k_ne) rfl H.f_casU64 (x_casU64_n L) (x_casU64_b L) (x_casU64_x L) .u64 (x_casU64_f L) rfl rfl rfl hw.cellSt (hw.thaw 0) (by rw [<- hS]; simp only [KK]; omega),60,?_⟩
   clear hw hv' e
   revert w
   show GoW c.P true (R0 c) (D0 c Low) (c.Anch Low) (fun w=>X w /\ WgLive c.ty c.Wg w) 60 _
   walk_nrm
   repeat (first
    | refine Bj E ?_
    | refine Co E ?_
    | refine Ah E ?_
    | refine Ar E ?_
    | refine Ay E ?_
    | refine Ck E ?_
    | refine Bf E ?_
    | refine Bi E ?_
    | refine Bh E ?_
    | refine Az E ?_
    | refine Cv E ?_
    | refine A8 E rfl ?_
    | refine Bg E rfl ?_
    | (refine Bn E rfl rfl ?_; walk_nrm)
    | refine Cc E ?_
     | refine Bq E ?_
    | refine Di E ?_
    | (refine Dp E rfl rfl H.f_uCas rfl ?_; walk_nrm)
    | (refine A9 E rfl rfl (by k_ne) (fun w hF K hK=>?_); go_simp; refine hK _ (by simp [go_sem, *]) ?_; clear hK K hF w; try w_num))
   refine Bv E ?_
   exact Bp E (fun w hF=>hAnch _ _ ⟨_,rfl,by simp,by simp,by rw [<- hty]; exact hF⟩)
end Go.Phase
namespace Go.Mark
open Go.Conc Go.Walk Go.Phase Go.RowKit Go.Conc.Lib Go.ConcR.Gen Go.ConcN.Gen Go.Lift Go.Proofs
open Go.ConcN (WgLive Has RW DWs AtR0 PayAt)
open Go.ConcR (KK WgAt stA smA rd wr mk Payload)
section
noncomputable def Acj : Array Oper:=match Gp with
 | .seq (.region _ o _) _=>o
 | _=>#[]
noncomputable def Tc : Code:=match Gp with
 | .seq _ r=>r
 | _=>.skip
theorem Aen : Gp = .seq (.region 8 Acj false) Tc:=rfl
noncomputable def Am9 (T : Array Value) : Frame:=(base 60).at ⟨T,[]⟩ [.inRegion Acj [0],.code Tc]
noncomputable def Aco (T : Array Value) : Frame:=(base 60).at ⟨T,[]⟩ [.inRegion Acj [],.code Tc]
section
variable {c : Cfg} (I : IsC c) {bm bacc cap : Nat} {X : Array Value} {code : Nat -> ByteArray} {cs : List Frame}
theorem Aan (I : IsC c) {bs : List Rw} (g0 : GR c bs) {Low : Nat} {b₀ : Frame} (hA : ∀ g w,AnchWN Tryz.link (HR bs) c.Wg b₀ cs g w -> c.Anch Low g w) :
  GoW Tryz.prog true (R0 c) (D0 c Low) (AtKd c Low) (F0 c Low bs) 20 (G ((base 100).at ⟨#[pt c.Wg] ++ Array.replicate 83 ud,[]⟩ [.code (body_wait Tryz.link)]) (b₀ :: cs)):=by
 have E:=U2 (Low:=Low) I g0
 obtain ⟨l7,hl7⟩ : ∃ l,l = L7 Tryz.link:=⟨_,rfl⟩
 have hl7':=hl7
 simp only [L7,body_wait,waitFn,Option.getD_some] at hl7'
 simp only [body_wait,waitFn,Option.getD_some]
 rw [<- hl7']
 walk_nrm
 refine Bj E ?_
 refine A8 E rfl ?_
 refine Ar E ?_
 refine Bp E (fun w hF=>?_)
 unfold Phase.AtKd
 rw [I.P]
 refine ⟨rfl,_,stepG_mark0 .disable (by simp) rfl rfl (by k_ne) rfl Tryz.wgLib.f_disable (x_disable_n Tryz.link) (x_disable_b Tryz.link) (x_disable_x Tryz.link) (x_disable_f Tryz.link),40,?_⟩
 revert w
 show GoW Tryz.prog true (R0 c) (D0 c Low) (c.Anch Low) (F0 c Low bs) 40 _
 walk_nrm
 repeat (first
  | refine Bj E ?_
  | refine Ah E ?_
  | refine Ar E ?_
  | refine A8 E rfl ?_
  | refine Cc E ?_
  | refine Vx E ?_
  | refine A8 E (by simp [Act.eval]; omega) ?_
  | (refine A9 E rfl rfl (by k_ne) (fun w hF K hK=>?_); go_simp; refine hK _ (by simp [go_sem, *]) ?_; clear hK K hF w; try w_num))
 rw [hl7]
 exact Bp E (fun w hF=>hA _ _ ⟨_,rfl,by simp,by simp,hF.rows,hF.live⟩)
theorem last (I : IsC c) (A : Acc c bm bacc X code) {Low : Nat} {v1 v2 v5 v6 v7 v8 v9 v13 v14 v15 v16 v17 v18 v19 v20 v21 : Value} (hA : ∀ T g w,AnchWN Tryz.link (HR (bs0 c bacc bm X)) c.Wg (Am9 T) cs g w -> T.size = 22 /\ T[0]? = some (.slice (some ⟨bacc,0,none⟩) c.n cap) /\ T[3]? = some (pt bm) -> c.Anch Low g w) :
  GoW Tryz.prog true (R0 c) (D0 c Low) (AtKd c Low) (F0 c Low (bs0 c bacc bm X)) 100 (G ((base 60).at ⟨#[.slice (some ⟨bacc,0,none⟩) c.n cap,v1,v2,pt bm,pt c.Wg,v5,v6,v7,v8,v9,.slice (some ⟨bacc,0,none⟩) c.n cap,.int .i64 (c.n : Int),.int .i64 (c.n : Int),v13,v14,v15,v16,v17,v18,v19,v20,v21],[]⟩ [.code E8,.inLoop E8,.inBlock 0,.code Gp]) cs):=by
 have g0:=A.gr
 have E:=U2 (Low:=Low) I g0
 obtain ⟨lp,hlp⟩ : ∃ l,l = E8:=⟨_,rfl⟩
 rw [<- hlp]
 have hlp':=hlp
 simp only [E8,Tryz.f60] at hlp'
 rw [show (Item.code lp) = Item.code _ from congrArg Item.code hlp',Aen]
 obtain ⟨fin,hfin⟩ : ∃ f,f = Tc:=⟨_,rfl⟩
 rw [<- hfin]
 repeat (first
  | refine Bj E ?_
  | refine Ah E ?_
  | refine Ar E ?_
  | refine Bg E rfl ?_
  | refine Adg E rfl ?_
  | refine Bg E (by simp [Act.eval]; omega) ?_
  | (refine A9 E rfl rfl (by k_ne) (fun w hF K hK=>?_); go_simp; refine hK _ (by simp [go_sem, *]) ?_; clear hK K hF w; try w_num))
 refine Df E rfl rfl (by k_ne) rfl Tryz.wgLib.f_wait (nm_wait Tryz.link) (c:=body_wait Tryz.link) rfl ?_
 walk_nrm
 rw [show (waitFn Tryz.link).ntmps - 1 = 83 from rfl,hfin]
 exact Cm E (n:=20) (Aan I g0 (fun g w h=>hA _ g w h ⟨rfl,rfl,rfl⟩)) (by omega)
theorem heads (I : IsC c) (A : Acc c bm bacc X code) (hA : ∀ Low T g w,AnchWN Tryz.link (HR (bs0 c bacc bm X)) c.Wg (Am9 T) cs g w -> T.size = 22 /\ T[0]? = some (.slice (some ⟨bacc,0,none⟩) c.n cap) /\ T[3]? = some (pt bm) -> c.Anch Low g w) :
  ∀ (r i : Nat),i + r = c.n -> ∀ (Low : Nat) (v1 v2 v5 v6 v7 v8 v9 v13 v14 v15 v16 v17 v18 v19 v20 v21 : Value),Lo c Low -> GoW Tryz.prog true (R0 c) (D0 c Low) (Mv c r Low) (F0 c Low (bs0 c bacc bm X)) 100 (G ((base 60).at ⟨#[.slice (some ⟨bacc,0,none⟩) c.n cap,v1,v2,pt bm,pt c.Wg,v5,v6,v7,v8,v9,.slice (some ⟨bacc,0,none⟩) c.n cap,.int .i64 (c.n : Int),.int .i64 (i : Int),v13,v14,v15,v16,v17,v18,v19,v20,v21],[]⟩ [.code E8,.inLoop E8,.inBlock 0,.code Gp]) cs)
 | 0,i,hi,Low,v1,v2,v5,v6,v7,v8,v9,v13,v14,v15,v16,v17,v18,v19,v20,v21,L=>by
  have e : i = c.n:=by omega
  subst e
  exact last I A (hA Low)
 | r + 1,i,hi,Low,v1,v2,v5,v6,v7,v8,v9,v13,v14,v15,v16,v17,v18,v19,v20,v21,L=>start I A hi L (fun Low' v1 v2 v5 v6 v7 v8 v9 v13 v14 v15 v16 v17 v18 v19 v20 v21 L'=>heads I A hA r (i + 1) (by omega) Low' v1 v2 v5 v6 v7 v8 v9 v13 v14 v15 v16 v17 v18 v19 v20 v21 L')
end
end
section
noncomputable def Ja : Code:=match Tryz.f60.body with
 | some (.seq _ (.seq _ (.seq _ r)))=>r
 | _=>.skip
noncomputable def Xi : Array Oper:=match Tryz.f60.body with
 | some (.seq _ (.seq _ (.seq (.region _ o _) _)))=>o
 | _=>#[]
theorem Adp (w : World) (a : Option Addr) (l k : Nat) : (Builtin.len_ #[22] 3 #[.slice a l k]).events Tryz.prog w #[] = #[]:=by
 simp [Builtin.len_,go_sem]
def Acp (bm : Nat) (acc : Value) (T : Array Value) : Prop:=T.size = 22 /\ T[0]? = some acc /\ T[3]? = some (pt bm)
noncomputable def Dh (Wg C n base o : Nat) (Shun : Loc -> Prop) (bm bacc cap : Nat) (X : Array Value) (code : Nat -> ByteArray) (cs : List Frame) : Cfg :=
 { P:=Tryz.prog,ty:=189,tb:=4,Wg,C,n,base,o,Shun,Out:=fun i b w=>w.heap[b]? = some (.cells (marks (code i) (code i).size 0 (zeros (code i).size)) 4) /\ w.cell? ⟨C,i,none⟩ = some (sl b (code i).size),Anch:=fun _ g w=>∃ T,Acp bm (.slice (some ⟨bacc,0,none⟩) n cap) T /\ AnchWN Tryz.link (HR [⟨bacc,X,52⟩,⟨bm,#[sl C n],122⟩]) Wg (Am9 T) cs g w,Then:=fun g w=>∃ T,Acp bm (.slice (some ⟨bacc,0,none⟩) n cap) T /\ HR [⟨bacc,X,52⟩,⟨bm,#[sl C n],122⟩] w /\ Goes Tryz.prog true AtRel Kk (fun g' _=>g' = G (Aco T) cs) 40 g w }
section
variable {Wg C n bse o : Nat} {Shun : Loc -> Prop} {bm bacc cap : Nat} {X : Array Value} {code : Nat -> ByteArray} {cs : List Frame}
theorem Ark (hCW : C ≠ Wg) (bC : bse <= C) (bW : bse <= Wg) (hS : ∀ l,Shun l -> ∃ a : Addr,l = .cell a /\ a.block < bse) : Geo (Dh Wg C n bse o Shun bm bacc cap X code cs) :=
 ⟨hCW,by show (189 : Nat) ≠ 4; decide,by show (132 : Nat) ≠ 4; decide,bC,bW,hS,fun i b w w' h1 h2 h=>⟨h1.trans h.1,h2.trans h.2⟩,fun L g w h=>by
  obtain ⟨T,_,T',rfl,_⟩:=h
  rfl⟩
theorem Amx (G : Geo (Dh Wg C n bse o Shun bm bacc cap X code cs)) : IsC (Dh Wg C n bse o Shun bm bacc cap X code cs):=⟨rfl,rfl,rfl,G⟩
theorem Apx (G : Geo (Dh Wg C n bse o Shun bm bacc cap X code cs)) (g0 : GR (Dh Wg C n bse o Shun bm bacc cap X code cs) (bs0 (Dh Wg C n bse o Shun bm bacc cap X code cs) bacc bm X)) (L : Nat) (g : Goroutine) (w : World) (h : ((Dh Wg C n bse o Shun bm bacc cap X code cs)).Anch L g w) : ∃ m,Goes ((Dh Wg C n bse o Shun bm bacc cap X code cs)).P true (R0 (Dh Wg C n bse o Shun bm bacc cap X code cs)) (D0 (Dh Wg C n bse o Shun bm bacc cap X code cs) L) (AtW1 (Dh Wg C n bse o Shun bm bacc cap X code cs) L) m g w:=by
 obtain ⟨T,hT,h⟩:=h
 have I:=Amx G
 refine Aqm (c:=(Dh Wg C n bse o Shun bm bacc cap X code cs)) (L:=Tryz.link) Tryz.wgLib (X:=HR (bs0 (Dh Wg C n bse o Shun bm bacc cap X code cs) bacc bm X)) (fun w w₁ h r q hq=>(r.keep q.b (lt_of_heap (h q hq)) (g0.wg q hq) (g0.cc q hq) (Xg I (h q hq) (g0.ty q hq))).trans (h q hq))
  (b₀:=Go.Conc.base 60) (a₀:=⟨T,[]⟩) (ops₀:=Acj) (i₀:=0) (rest₀:=[]) (k₀:=[.code Tc]) (cs:=cs) rfl (fun g w h=>⟨T,hT,h⟩) (fun g w hX hl hg=>?_) g w h
 refine ⟨T.setIfInBounds 20 (.tuple #[]),⟨by simpa using hT.1,by rw [Array.getElem?_setIfInBounds_ne (by omega)]; exact hT.2.1,by rw [Array.getElem?_setIfInBounds_ne (by omega)]; exact hT.2.2⟩,hX,hg⟩
theorem Ahy (G : Geo (Dh Wg C n bse o Shun bm bacc cap X code cs)) (A : Acc (Dh Wg C n bse o Shun bm bacc cap X code cs) bm bacc X code) {w : World} (hW : Wg < w.heap.size) (hC : C < w.heap.size) (hb : bse <= w.heap.size) (hr : HR (bs0 (Dh Wg C n bse o Shun bm bacc cap X code cs) bacc bm X) w) (hl : WgLive 189 Wg w) {v1 v2 v5 v6 v7 v8 v9 v10 v11 v12 v13 v14 v15 v16 v17 v18 v19 v20 v21 : Value} :
  Spawns (Dh Wg C n bse o Shun bm bacc cap X code cs) n (Go.Conc.G ((Go.Conc.base 60).at ⟨#[.slice (some ⟨bacc,0,none⟩) n cap,v1,v2,pt bm,pt Wg,v5,v6,v7,v8,v9,v10,v11,v12,v13,v14,v15,v16,v17,v18,v19,v20,v21],[]⟩ [.inRegion Xi [],.code Ja]) cs) w:=by
 have I:=Amx G
 have L : Lo (Dh Wg C n bse o Shun bm bacc cap X code cs) w.heap.size:=⟨hW,hC,hb⟩
 refine Tk (c:=(Dh Wg C n bse o Shun bm bacc cap X code cs)) (r:=n) ⟨140,?_⟩
 have E:=U2 (Low:=w.heap.size) I A.gr
 have hH:=heads I A (cap:=cap) (cs:=cs) (fun Low T g w h hT=>⟨T,hT,h⟩) n 0 (Nat.zero_add n) w.heap.size
 suffices GoW Tryz.prog true (R0 (Dh Wg C n bse o Shun bm bacc cap X code cs)) (D0 (Dh Wg C n bse o Shun bm bacc cap X code cs) w.heap.size) (Mv (Dh Wg C n bse o Shun bm bacc cap X code cs) n w.heap.size) (F0 (Dh Wg C n bse o Shun bm bacc cap X code cs) w.heap.size (bs0 (Dh Wg C n bse o Shun bm bacc cap X code cs) bacc bm X)) 140 _ from this w ⟨hr,Nat.le_refl _,hl⟩
 have e1:=Adp
 obtain ⟨lp,hlp⟩ : ∃ l,l = E8:=⟨_,rfl⟩
 obtain ⟨rs,hrs⟩ : ∃ l,l = Gp:=⟨_,rfl⟩
 rw [<- hlp,<- hrs] at hH
 have hlp':=hlp
 have hrs':=hrs
 simp only [E8,Tryz.f60] at hlp'
 simp only [Gp,Tryz.f60] at hrs'
 simp only [Ja,Tryz.f60]
 rw [<- hlp',<- hrs']
 repeat (first
  | refine Bj E ?_
  | refine Ah E ?_
  | refine Ck E ?_
  | refine Cc E ?_
  | refine Vx E ?_
  | (refine A9 E rfl rfl (by k_ne) (fun w hF K hK=>?_); go_simp; refine hK _ (by simp [go_sem, *]) ?_; clear hK K hF w; try w_num))
 exact Cm E (hH _ _ _ _ _ _ _ _ _ _ _ _ _ _ _ _ L) (by omega)
structure Mid (c : Cfg) (bs : List Rw) (w0 w : World) : Prop where
 rows : HR bs w
 out : ∀ i,i < c.n -> ∃ b,c.base <= b /\ IsB c w b /\ c.Out i b w
 pay : PayAt c.C c.n w
 wg : WgAt c.ty c.Wg w 0 0
 frame : ∀ b,b < c.base -> w.heap[b]? = w0.heap[b]?
 tidy : Tidy c w
 os : w.os = w0.os /\ w.output = w0.output
 low : c.base <= w.heap.size /\ c.Wg < w.heap.size /\ c.C < w.heap.size
theorem Iw {P : Program} {D : World -> World -> Array Event -> Prop} {Stop : Goroutine -> World -> Prop} : ∀ (n : Nat) (a : Goroutine) (w : World),Goes P true AtRel D Stop n a w -> I7 P D Stop a w
 | 0,_,_,h=>.stop h
 | n + 1,a,w,h=>by
  rcases h with h | ⟨hrun,h⟩
  ·exact .stop h
  ·refine .step hrun (fun w₁=>match stepG P true a w₁ with | .go g w' es=>(g,w',es) | _=>(a,w₁,#[])) (fun w₁ h₁=>?_) (fun w₁ h₁=>?_)
   ·have:=h w₁ h₁
    generalize stepG P true a w₁ = st at this
    cases st with
    | go g w' es=>exact ⟨rfl,this.1⟩
    | _=>exact this.elim
   ·have:=h w₁ h₁
    generalize stepG P true a w₁ = st at this
    cases st with
    | go g w' es=>exact Iw n _ _ this.2
    | _=>exact this.elim
theorem Un {P : Program} {main : Bool} {gs : Goroutine} {x : World} : ∀ (n : Nat) (a : Goroutine) (w : World),(w.heap = x.heap /\ w.os = x.os /\ w.output = x.output) -> Goes P main AtRel Kk (fun g' _=>g' = gs) n a w -> Goes P main AtRel Kk (fun g' w₁=>g' = gs /\ w₁.heap = x.heap /\ w₁.os = x.os /\ w₁.output = x.output) n a w
 | 0,_,w,hw,hg=>fun w₁ h₁=>⟨hg w₁ h₁,by obtain ⟨d,rfl⟩:=h₁; exact hw⟩
 | n + 1,a,w,hw,hg=>by
  rcases hg with hg | ⟨hrun,hg⟩
  ·exact .inl fun w₁ h₁=>⟨hg w₁ h₁,by obtain ⟨d,rfl⟩:=h₁; exact hw⟩
  ·refine .inr ⟨hrun,fun w₁ h₁=>?_⟩
   have hg:=hg w₁ h₁
   have hw1 : w₁.heap = x.heap /\ w₁.os = x.os /\ w₁.output = x.output:=by obtain ⟨d,rfl⟩:=h₁; exact hw
   generalize stepG P main a w₁ = st at hg
   cases st with
   | go g w' es =>
    simp only [goes_go] at hg ⊢
    refine ⟨hg.1,Un n g w' ?_ hg.2⟩
    rw [hg.1.1]
    exact hw1
   | _=>exact hg.elim
theorem Ak9 (hCW : C ≠ Wg) (bC : bse <= C) (bW : bse <= Wg) (hS : ∀ l,Shun l -> ∃ a : Addr,l = .cell a /\ a.block < bse) (A : Acc (Dh Wg C n bse o Shun bm bacc cap X code cs) bm bacc X code) (hn : o + n < 2147483647)
  {w : World} (hC : C < w.heap.size) (hb : bse <= w.heap.size) (hr : HR (bs0 (Dh Wg C n bse o Shun bm bacc cap X code cs) bacc bm X) w) (hl : WgAt 189 Wg w 0 0) (hp : PayAt C n w) (ht : Tidy (Dh Wg C n bse o Shun bm bacc cap X code cs) w) {v1 v2 v5 v6 v7 v8 v9 v10 v11 v12 v13 v14 v15 v16 v17 v18 v19 v20 v21 : Value} {m : Machine} {t : Trace} {B0 : Nat} (hB : B0 <= Wg)
  (hst : Dv Tryz.prog Shun B0 (o + 1) (Go.Conc.G ((Go.Conc.base 60).at ⟨#[.slice (some ⟨bacc,0,none⟩) n cap,v1,v2,pt bm,pt Wg,v5,v6,v7,v8,v9,v10,v11,v12,v13,v14,v15,v16,v17,v18,v19,v20,v21],[]⟩ [.inRegion Xi [],.code Ja]) cs) w m t) :
  Runs Tryz.prog m t fun m' t'=>∃ T w',Acp bm (.slice (some ⟨bacc,0,none⟩) n cap) T /\ Mid (Dh Wg C n bse o Shun bm bacc cap X code cs) (bs0 (Dh Wg C n bse o Shun bm bacc cap X code cs) bacc bm X) w w' /\ Dv Tryz.prog (Shun' (Dh Wg C n bse o Shun bm bacc cap X code cs)) w'.heap.size (o + n + 1) (Go.Conc.G (Aco T) cs) w' m' t':=by
 have G:=Ark (Wg:=Wg) (C:=C) (n:=n) (bse:=bse) (o:=o) (Shun:=Shun) (bm:=bm) (bacc:=bacc) (cap:=cap) (X:=X) (code:=code) (cs:=cs) hCW bC bW hS
 have hW : Wg < w.heap.size:=(Array.getElem?_eq_some_iff.1 hl).1
 refine (Qu (c:=(Dh Wg C n bse o Shun bm bacc cap X code cs)) G hn (Apx G A.gr) hB hb hC hl hp ht (Ahy G A hW hC hb hr ⟨_,_,hl⟩) hst).then fun m' t' hf=>?_
 obtain ⟨a,w',hd,hst'⟩:=hf
 obtain ⟨T,hT,hrw,hg⟩:=hd.thn
 refine (M9 (D:=Kk) (β:=fun w=>w.heap.size) (fun _ _=>rfl) (fun w w' es h=>?_) (Iw _ _ _ (Un (x:=w') _ _ _ ⟨rfl,rfl,rfl⟩ hg)) ⟨w'.drawn,rfl⟩ hst').mono fun m'' t'' h=>?_
 ·obtain ⟨rfl,rfl⟩:=h
  exact ⟨Nat.le_refl _,fun e he=>by simp at he⟩
 ·obtain ⟨a',w'',⟨rfl,hh,ho1,ho2⟩,hst''⟩:=h
  have hc : ∀ b : Nat,w''.heap[b]? = w'.heap[b]?:=fun b=>by rw [hh]
  have hce : ∀ ad,w''.cell? ad = w'.cell? ad:=fun ad=>by simp only [World.cell?,hh]
  refine ⟨T,w'',hT,⟨fun q hq=>(hc _).trans (hrw q hq),fun i hi=>?_,?_,(hc _).trans hd.wg,fun b hb=>(hc b).trans (hd.frame b hb),fun b o hb ho=>hd.tidy b o hb ((hc b).symm.trans ho),⟨ho1.trans hd.os.1,ho2.trans hd.os.2⟩,by rw [hh]; exact hd.low⟩,hst''⟩
  ·obtain ⟨b,h1,⟨x,f,h2⟩,h3⟩:=hd.out i hi
   exact ⟨b,h1,⟨x,f,(hc b).trans h2⟩,(hc b).trans h3.1,(hce _).trans h3.2⟩
  ·obtain ⟨x,h1,h2⟩:=hd.pay
   exact ⟨x,(hc _).trans h1,h2⟩
end
end
end Go.Mark
