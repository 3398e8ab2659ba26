/-
  Wait in company, whatever the others make meanwhile.
-/
import Derived.Test.YtbephahokhnccaaGreatXD1toD4
set_option linter.unusedSectionVars false
namespace Go.Phase
open Go.Conc Go.Walk Go.RowKit Go.Conc.Lib Go.ConcR.Gen Go.ConcN.Gen Go.Lift
open Go.ConcN (WgLive)
open Go.ConcR (KK WgAt stA smA rd wr mk Payload)
variable [Payload] {L : WgLink}
set_option maxRecDepth 100000 in
set_option maxHeartbeats 8000000 in
theorem waitX {c : Cfg} (H : WgLib c.P L) {Low : Nat} {X : World → Prop} (hX : ∀ w w₁, X w → R0 c w w₁ → X w₁) {b₀ : Frame} {a₀ : Act} {ops₀ : Array Oper} {i₀ : Nat} {rest₀ : List Nat} {k₀ : List Item} {cs : List Frame} (hty : c.ty = L.tWg)
    (hAnch : ∀ g w, AnchWN L X c.Wg (b₀.at a₀ (.inRegion ops₀ (i₀ :: rest₀) :: k₀)) cs g w → c.Anch Low g w)
    (hThen : ∀ g w, X w → WgLive c.ty c.Wg w → Goes c.P true AtRel DNil (fun g' _ => g' = G (b₀.at (a₀.put ((ops₀[i₀]?).bind (·.dst)) (.tuple #[])) (.inRegion ops₀ rest₀ :: k₀)) cs) 40 g w → c.Then g w) (g : Goroutine) (w : World) (h : AnchWN L X c.Wg (b₀.at a₀ (.inRegion ops₀ (i₀ :: rest₀) :: k₀)) cs g w) :
    ∃ m, Goes c.P true (R0 c) (D0 c Low) (AtW1 c Low) m g w := by
  lib_facts
  have E := envX c Low hX
  obtain ⟨T, rfl, hT84, t0, hF0⟩ := h
  rw [← hty] at hF0
  obtain ⟨v0, v1, v2, v3, v4, v5, v6, v7, v8, v9, v10, v11, v12, v13, v14, v15, v16, v17, v18, v19, v20, v21, v22, v23, v24, v25, v26, v27, v28, v29, v30, v31, v32, v33, v34, v35, v36, v37, v38, v39, v40, v41, v42, v43, v44, v45, v46, v47, v48, v49, v50, v51, v52, v53, v54, v55, v56, v57, v58, v59, v60, v61, v62, v63, v64, v65, v66, v67, v68, v69, v70, v71, v72, v73, v74, v75, v76, v77, v78, v79, v80, v81, v82, v83, rfl⟩ := array84 T hT84
  simp only [List.getElem?_toArray, List.getElem?_cons_zero, Option.some.injEq] at t0
  subst t0
  clear hT84
  refine ⟨60, ?_⟩
  revert hF0
  generalize w = w
  revert w
  show GoW c.P true (R0 c) (D0 c Low) (AtW1 c Low) (fun w => X w ∧ WgLive c.ty c.Wg w) 60 _
  simp only [L7, body_wait, waitFn, Option.getD_some]
  repeat (first
    | refine gw_seq E ?_
    | refine gw_skip E ?_
    | refine gw_region_end E ?_
    | refine gw_region_1 E ?_
    | refine gw_region_2 E ?_
    | refine gw_region_3 E ?_
    | refine gw_region_4 E ?_
    | refine gw_region_5 E ?_
    | refine gw_region_6 E ?_
    | refine gw_region_7 E ?_
    | refine gw_region_11 E ?_
    | refine gw_true E rfl ?_
    | refine gw_false E rfl ?_
    | (refine gw_unwanted E rfl rfl ?_; walk_nrm)
    | refine gw_block E ?_
    | refine gw_inLoop E ?_
    | refine gw_inBlock E ?_
    | refine gw_ret E ?_
    | (refine gw_call E rfl rfl (by k_ne) rfl H.f_uLoad (nm_uLoad L) rfl ?_; walk_nrmf uLoadFn)
    | (refine gw_opk E rfl rfl (by k_ne) (fun w hF K hK => ?_); go_simp; refine hK _ (by simp [go_sem, *]) ?_; clear hK K hF w; try w_num))
  refine gw_stop E (fun w hF => ⟨rfl, fun v hv hw => ?_⟩)
  rcases Nat.eq_zero_or_pos v with rfl | hvp
  · replace hw : WgAt c.ty c.Wg w 0 0 := by simpa using hw
    refine ⟨_, stepG_load_atomic (v := 0) rfl rfl (by k_ne) rfl H.f_loadU64 (x_loadU64_n L) (x_loadU64_b L) (x_loadU64_x L) .u64 (x_loadU64_f L) rfl hw.cellSt, fun _ => ⟨80, ?_⟩, fun h => absurd rfl h⟩
    clear hw hv
    revert w
    show GoW c.P true (R0 c) (D0 c Low) (AtKe c Low) (fun w => X w ∧ WgLive c.ty c.Wg w) 80 _
    walk_nrm
    repeat (first
      | refine gw_seq E ?_
      | refine gw_skip E ?_
      | refine gw_region_end E ?_
      | refine gw_region_1 E ?_
      | refine gw_region_2 E ?_
      | refine gw_region_3 E ?_
      | refine gw_region_4 E ?_
      | refine gw_region_5 E ?_
      | refine gw_region_6 E ?_
      | refine gw_region_7 E ?_
      | refine gw_region_11 E ?_
      | refine gw_true E rfl ?_
      | refine gw_false E rfl ?_
      | (refine gw_unwanted E rfl rfl ?_; walk_nrm)
      | refine gw_block E ?_
      | refine gw_inLoop E ?_
      | refine gw_inBlock E ?_
      | refine gw_ret E ?_
      | (refine gw_leave1 E rfl rfl H.f_uLoad rfl ?_; walk_nrm)
      | (refine gw_opk E rfl rfl (by k_ne) (fun w hF K hK => ?_); go_simp; refine hK _ (by simp [go_sem, *]) ?_; clear hK K hF w; try w_num))
    refine gw_stop E (fun w hF => ?_)
    refine ⟨rfl, _, stepG_mark0 .enable (by simp) rfl rfl (by k_ne) rfl H.f_enable (x_enable_n L) (x_enable_b L) (x_enable_x L) (x_enable_f L), 30, ?_⟩
    revert w
    show GoW c.P true (R0 c) (D0 c Low) (AtAcq c) (fun w => X w ∧ WgLive c.ty c.Wg w) 30 _
    walk_nrm
    repeat (first
      | refine gw_seq E ?_
      | refine gw_skip E ?_
      | refine gw_region_end E ?_
      | refine gw_region_1 E ?_
      | refine gw_region_2 E ?_
      | refine gw_region_3 E ?_
      | refine gw_region_4 E ?_
      | refine gw_region_5 E ?_
      | refine gw_region_6 E ?_
      | refine gw_region_7 E ?_
      | refine gw_region_11 E ?_
      | refine gw_true E rfl ?_
      | refine gw_false E rfl ?_
      | (refine gw_unwanted E rfl rfl ?_; walk_nrm)
      | refine gw_block E ?_
      | refine gw_inLoop E ?_
      | refine gw_inBlock E ?_
      | refine gw_ret E ?_
      | (refine gw_conv E rfl rfl (by k_ne) rfl rfl H.underlying_tWgP H.underlying_tUP H.room_tWg (fun w hF => live0 hF.2) ?_; walk_nrm)
      | (refine gw_opk E rfl rfl (by k_ne) (fun w hF K hK => ?_); go_simp; refine hK _ (by simp [go_sem, *]) ?_; clear hK K hF w; try w_num))
    refine gw_stop E (fun w hF => ?_)
    refine ⟨rfl, _, stepG_markAt .acquire (by simp) rfl rfl (by k_ne) rfl H.f_acquire (x_acquire_n L) (x_acquire_b L) (x_acquire_x L) (x_acquire_f L) (by simp [Act.eval, stA]), hThen _ _ hF.1 hF.2 ?_⟩
    revert w
    show GoW c.P true AtRel DNil _ (fun w => X w ∧ WgLive c.ty c.Wg w) 40 _
    replace E := envA c hX
    walk_nrm
    repeat (first
      | refine gw_seq E ?_
      | refine gw_skip E ?_
      | refine gw_region_end E ?_
      | refine gw_region_1 E ?_
      | refine gw_region_2 E ?_
      | refine gw_region_3 E ?_
      | refine gw_region_4 E ?_
      | refine gw_region_5 E ?_
      | refine gw_region_6 E ?_
      | refine gw_region_7 E ?_
      | refine gw_region_11 E ?_
      | refine gw_true E rfl ?_
      | refine gw_false E rfl ?_
      | (refine gw_unwanted E rfl rfl ?_; walk_nrm)
      | refine gw_block E ?_
      | refine gw_inLoop E ?_
      | refine gw_inBlock E ?_
      | refine gw_ret E ?_
      | (refine gw_opk E rfl rfl (by k_ne) (fun w hF K hK => ?_); go_simp; refine hK _ (by simp [go_sem, *]) ?_; clear hK K hF w; try w_num))
    refine gw_leave0 E rfl rfl H.f_wait rfl ?_
    exact gw_stop E (fun w _ => rfl)
  · obtain ⟨S, hS⟩ : ∃ S : Int, (v : Int) * KK = S := ⟨_, rfl⟩
    have a1 : S / 4294967296 = (v : Int) := by rw [← hS]; simp only [KK]; omega
    have b1 : bits .and .u64 S 2147483648 = 0 := by rw [← hS]; have := Go.ConcN.st_flag v 0 (by omega) (by omega); simpa [KK] using this
    have b2 : bits .and .u64 S 2147483647 = 0 := by rw [← hS]; have := Go.ConcN.st_waiters v 0 (by omega) (by omega); simpa [KK] using this
    have c1 : IntKind.i32.wrap (v : Int) = (v : Int) := by rw [IntKind.wrap_i32]; omega
    have w1 : IntKind.u64.wrap (S + 1) = S + 1 := by rw [IntKind.wrap_u64, ← hS]; simp only [KK]; omega
    have q3 : decide ((v : Int) < 0) = false := decide_eq_false (by omega)
    have q4 : decide (0 < (v : Int)) = true := decide_eq_true (by omega)
    have q5 : ((v : Int) == 0) = false := by simp; omega
    have q6 : decide ((v : Int) = 0) = false := decide_eq_false (by omega)
    rw [hS] at hw
    refine ⟨_, stepG_load_atomic (v := S) rfl rfl (by k_ne) rfl H.f_loadU64 (x_loadU64_n L) (x_loadU64_b L) (x_loadU64_x L) .u64 (x_loadU64_f L) rfl hw.cellSt, fun h0 => absurd h0 (by omega), fun _ => ⟨90, ?_⟩⟩
    clear hw
    revert w
    show GoW c.P true (R0 c) (D0 c Low) (AtW2 c Low v) (fun w => X w ∧ WgLive c.ty c.Wg w) 90 _
    walk_nrm
    repeat (first
      | refine gw_seq E ?_
      | refine gw_skip E ?_
      | refine gw_region_end E ?_
      | refine gw_region_1 E ?_
      | refine gw_region_2 E ?_
      | refine gw_region_3 E ?_
      | refine gw_region_4 E ?_
      | refine gw_region_5 E ?_
      | refine gw_region_6 E ?_
      | refine gw_region_7 E ?_
      | refine gw_region_11 E ?_
      | refine gw_true E rfl ?_
      | refine gw_false E rfl ?_
      | (refine gw_unwanted E rfl rfl ?_; walk_nrm)
      | refine gw_block E ?_
      | refine gw_inLoop E ?_
      | refine gw_inBlock E ?_
      | refine gw_ret E ?_
      | refine gw_true E (by simp [Act.eval]; omega) ?_
      | refine gw_false E (by simp [Act.eval]; omega) ?_
      | (refine gw_call E rfl rfl (by k_ne) rfl H.f_uCas (nm_uCas L) rfl ?_; walk_nrmf uCasFn)
      | (refine gw_leave1 E rfl rfl H.f_uLoad rfl ?_; walk_nrm)
      | (refine gw_opk E rfl rfl (by k_ne) (fun w hF K hK => ?_); go_simp; refine hK _ (by simp [go_sem, *]) ?_; clear hK K hF w; try w_num))
    refine gw_stop E (fun w hF => ⟨rfl, fun v' hv' hw => ⟨fun e => ?_, fun e => ?_⟩⟩)
    · subst e
      rw [hS] at hw ⊢
      refine ⟨_, (stepG_cas_hit (v := S) (n := S + 1) rfl rfl (by k_ne) rfl H.f_casU64 (x_casU64_n L) (x_casU64_b L) (x_casU64_x L) .u64 (x_casU64_f L) rfl rfl rfl hw.cellSt (hw.thaw 0)).trans (by rfl), 90, ?_⟩
      have hl : WgLive c.ty c.Wg (w.setCell (stA c.Wg) (.int .u64 (S + 1))) := ⟨_, _, hw.setSt _⟩
      have hF2 : X (w.setCell (stA c.Wg) (.int .u64 (S + 1))) ∧ WgLive c.ty c.Wg (w.setCell (stA c.Wg) (.int .u64 (S + 1))) := ⟨hX _ _ hF.1 (r0_aside (aside_setCell w (stA c.Wg) _) hl), hl⟩
      generalize w.setCell (stA c.Wg) (.int .u64 (S + 1)) = w' at hF2 ⊢
      clear hw hF hl w
      revert w'
      show GoW c.P true (R0 c) (D0 c Low) (AtW3 c Low) (fun w => X w ∧ WgLive c.ty c.Wg w) 90 _
      walk_nrm
      repeat (first
        | refine gw_seq E ?_
        | refine gw_skip E ?_
        | refine gw_region_end E ?_
        | refine gw_region_1 E ?_
        | refine gw_region_2 E ?_
        | refine gw_region_3 E ?_
        | refine gw_region_4 E ?_
        | refine gw_region_5 E ?_
        | refine gw_region_6 E ?_
        | refine gw_region_7 E ?_
        | refine gw_region_11 E ?_
        | refine gw_true E rfl ?_
        | refine gw_false E rfl ?_
        | (refine gw_unwanted E rfl rfl ?_; walk_nrm)
        | refine gw_block E ?_
        | refine gw_inLoop E ?_
        | refine gw_inBlock E ?_
        | refine gw_ret E ?_
        | (refine gw_leave1 E rfl rfl H.f_uCas rfl ?_; walk_nrm)
        | (refine gw_conv E rfl rfl (by k_ne) rfl rfl H.underlying_tPU32 H.underlying_tUP H.room_tU32 (fun w hF => live1 hF.2) ?_; walk_nrm)
        | (refine gw_ev E rfl (fun w _ => stepG_markAt .write (by simp) rfl rfl (by k_ne) rfl H.f_raceWrite (x_raceWrite_n L) (x_raceWrite_b L) (x_raceWrite_x L) (x_raceWrite_f L) (ad := ⟨c.Wg, 1, none⟩) (by simp [Act.eval])) (fun w _ => d0_write c Low w _ rfl) ?_; walk_nrm)
        | (refine gw_opk E rfl rfl (by k_ne) (fun w hF K hK => ?_); go_simp; refine hK _ (by simp [go_sem, *]) ?_; clear hK K hF w; try w_num))
      refine gw_stop E (fun w hF => ?_)
      refine ⟨rfl, rfl, fun ⟨st, hw⟩ => stepG_semacquire_wait rfl rfl rfl H.f_semacquire (x_semacquire_n L) (x_semacquire_b L) (x_semacquire_x L) (x_semacquire_f L) (by simp [Act.eval, smA]) hw.cellSm, fun hf => ?_⟩
      refine ⟨_, (stepG_semacquire (n := 1) rfl rfl (by k_ne) rfl H.f_semacquire (x_semacquire_n L) (x_semacquire_b L) (x_semacquire_x L) (x_semacquire_f L) (by simp [Act.eval, smA]) hf.cellSm (by k_ne) (hf.thaw 1)).trans (by rfl), 60, ?_⟩
      have hl : WgLive c.ty c.Wg (w.setCell (smA c.Wg) (.int .u32 0)) := ⟨_, _, hf.setSm 0⟩
      have hF2 : X (w.setCell (smA c.Wg) (.int .u32 0)) ∧ WgLive c.ty c.Wg (w.setCell (smA c.Wg) (.int .u32 0)) := ⟨hX _ _ hF.1 (r0_aside (aside_setCell w (smA c.Wg) _) hl), hl⟩
      generalize w.setCell (smA c.Wg) (.int .u32 0) = w' at hF2 ⊢
      clear hf hF hl w
      revert w'
      show GoW c.P true (R0 c) (D0 c Low) (AtW4 c Low) (fun w => X w ∧ WgLive c.ty c.Wg w) 60 _
      walk_nrm
      repeat (first
        | refine gw_seq E ?_
        | refine gw_skip E ?_
        | refine gw_region_end E ?_
        | refine gw_region_1 E ?_
        | refine gw_region_2 E ?_
        | refine gw_region_3 E ?_
        | refine gw_region_4 E ?_
        | refine gw_region_5 E ?_
        | refine gw_region_6 E ?_
        | refine gw_region_7 E ?_
        | refine gw_region_11 E ?_
        | refine gw_true E rfl ?_
        | refine gw_false E rfl ?_
        | (refine gw_unwanted E rfl rfl ?_; walk_nrm)
        | refine gw_block E ?_
        | refine gw_inLoop E ?_
        | refine gw_inBlock E ?_
        | refine gw_ret E ?_
        | (refine gw_call E rfl rfl (by k_ne) rfl H.f_uLoad (nm_uLoad L) rfl ?_; walk_nrmf uLoadFn)
        | (refine gw_opk E rfl rfl (by k_ne) (fun w hF K hK => ?_); go_simp; refine hK _ (by simp [go_sem, *]) ?_; clear hK K hF w; try w_num))
      refine gw_stop E (fun w hF => ⟨rfl, fun hw => ⟨_, stepG_load_atomic (v := 0) rfl rfl (by k_ne) rfl H.f_loadU64 (x_loadU64_n L) (x_loadU64_b L) (x_loadU64_x L) .u64 (x_loadU64_f L) rfl hw.cellSt, 60, ?_⟩⟩)
      clear hw
      revert w
      show GoW c.P true (R0 c) (D0 c Low) (AtKe c Low) (fun w => X w ∧ WgLive c.ty c.Wg w) 60 _
      walk_nrm
      repeat (first
        | refine gw_seq E ?_
        | refine gw_skip E ?_
        | refine gw_region_end E ?_
        | refine gw_region_1 E ?_
        | refine gw_region_2 E ?_
        | refine gw_region_3 E ?_
        | refine gw_region_4 E ?_
        | refine gw_region_5 E ?_
        | refine gw_region_6 E ?_
        | refine gw_region_7 E ?_
        | refine gw_region_11 E ?_
        | refine gw_true E rfl ?_
        | refine gw_false E rfl ?_
        | (refine gw_unwanted E rfl rfl ?_; walk_nrm)
        | refine gw_block E ?_
        | refine gw_inLoop E ?_
        | refine gw_inBlock E ?_
        | refine gw_ret E ?_
        | (refine gw_leave1 E rfl rfl H.f_uLoad rfl ?_; walk_nrm)
        | (refine gw_opk E rfl rfl (by k_ne) (fun w hF K hK => ?_); go_simp; refine hK _ (by simp [go_sem, *]) ?_; clear hK K hF w; try w_num))
      refine gw_stop E (fun w hF => ?_)
      refine ⟨rfl, _, stepG_mark0 .enable (by simp) rfl rfl (by k_ne) rfl H.f_enable (x_enable_n L) (x_enable_b L) (x_enable_x L) (x_enable_f L), 30, ?_⟩
      revert w
      show GoW c.P true (R0 c) (D0 c Low) (AtAcq c) (fun w => X w ∧ WgLive c.ty c.Wg w) 30 _
      walk_nrm
      repeat (first
        | refine gw_seq E ?_
        | refine gw_skip E ?_
        | refine gw_region_end E ?_
        | refine gw_region_1 E ?_
        | refine gw_region_2 E ?_
        | refine gw_region_3 E ?_
        | refine gw_region_4 E ?_
        | refine gw_region_5 E ?_
        | refine gw_region_6 E ?_
        | refine gw_region_7 E ?_
        | refine gw_region_11 E ?_
        | refine gw_true E rfl ?_
        | refine gw_false E rfl ?_
        | (refine gw_unwanted E rfl rfl ?_; walk_nrm)
        | refine gw_block E ?_
        | refine gw_inLoop E ?_
        | refine gw_inBlock E ?_
        | refine gw_ret E ?_
        | (refine gw_conv E rfl rfl (by k_ne) rfl rfl H.underlying_tWgP H.underlying_tUP H.room_tWg (fun w hF => live0 hF.2) ?_; walk_nrm)
        | (refine gw_opk E rfl rfl (by k_ne) (fun w hF K hK => ?_); go_simp; refine hK _ (by simp [go_sem, *]) ?_; clear hK K hF w; try w_num))
      refine gw_stop E (fun w hF => ?_)
      refine ⟨rfl, _, stepG_markAt .acquire (by simp) rfl rfl (by k_ne) rfl H.f_acquire (x_acquire_n L) (x_acquire_b L) (x_acquire_x L) (x_acquire_f L) (by simp [Act.eval, stA]), hThen _ _ hF.1 hF.2 ?_⟩
      revert w
      show GoW c.P true AtRel DNil _ (fun w => X w ∧ WgLive c.ty c.Wg w) 40 _
      replace E := envA c hX
      walk_nrm
      repeat (first
        | refine gw_seq E ?_
        | refine gw_skip E ?_
        | refine gw_region_end E ?_
        | refine gw_region_1 E ?_
        | refine gw_region_2 E ?_
        | refine gw_region_3 E ?_
        | refine gw_region_4 E ?_
        | refine gw_region_5 E ?_
        | refine gw_region_6 E ?_
        | refine gw_region_7 E ?_
        | refine gw_region_11 E ?_
        | refine gw_true E rfl ?_
        | refine gw_false E rfl ?_
        | (refine gw_unwanted E rfl rfl ?_; walk_nrm)
        | refine gw_block E ?_
        | refine gw_inLoop E ?_
        | refine gw_inBlock E ?_
        | refine gw_ret E ?_
        | (refine gw_opk E rfl rfl (by k_ne) (fun w hF K hK => ?_); go_simp; refine hK _ (by simp [go_sem, *]) ?_; clear hK K hF w; try w_num))
      refine gw_leave0 E rfl rfl H.f_wait rfl ?_
      exact gw_stop E (fun w _ => rfl)
    · refine ⟨_, stepG_cas_miss (v := (v' : Int) * KK) (old := S) (n := S + 1) rfl rfl (by k_ne) rfl H.f_casU64 (x_casU64_n L) (x_casU64_b L) (x_casU64_x L) .u64 (x_casU64_f L) rfl rfl rfl hw.cellSt (hw.thaw 0) (by rw [← hS]; simp only [KK]; omega), 60, ?_⟩
      clear hw hv' e
      revert w
      show GoW c.P true (R0 c) (D0 c Low) (c.Anch Low) (fun w => X w ∧ WgLive c.ty c.Wg w) 60 _
      walk_nrm
      repeat (first
        | refine gw_seq E ?_
        | refine gw_skip E ?_
        | refine gw_region_end E ?_
        | refine gw_region_1 E ?_
        | refine gw_region_2 E ?_
        | refine gw_region_3 E ?_
        | refine gw_region_4 E ?_
        | refine gw_region_5 E ?_
        | refine gw_region_6 E ?_
        | refine gw_region_7 E ?_
        | refine gw_region_11 E ?_
        | refine gw_true E rfl ?_
        | refine gw_false E rfl ?_
        | (refine gw_unwanted E rfl rfl ?_; walk_nrm)
        | refine gw_block E ?_
          | refine gw_inBlock E ?_
        | refine gw_ret E ?_
        | (refine gw_leave1 E rfl rfl H.f_uCas rfl ?_; walk_nrm)
        | (refine gw_opk E rfl rfl (by k_ne) (fun w hF K hK => ?_); go_simp; refine hK _ (by simp [go_sem, *]) ?_; clear hK K hF w; try w_num))
      refine gw_inLoop E ?_
      exact gw_stop E (fun w hF => hAnch _ _ ⟨_, rfl, by simp, by simp, by rw [← hty]; exact hF⟩)
end Go.Phase
