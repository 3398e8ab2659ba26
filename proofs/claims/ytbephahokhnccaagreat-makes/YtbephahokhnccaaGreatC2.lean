/-
  Add(1) in company, whatever the others make meanwhile.
-/
import Derived.Test.YtbephahokhnccaaGreatC1
set_option linter.unusedSectionVars false
namespace Go.Phase
open Go.Conc Go.Walk Go.RowKit Go.Conc.Lib Go.ConcR.Gen Go.ConcN.Gen
open Go.ConcN (WgLive)
open Go.ConcR (KK WgAt stA smA rd wr mk Payload)
variable [Payload] {L : WgLink}
set_option maxRecDepth 100000 in
set_option maxHeartbeats 8000000 in
theorem addX {c : Cfg} (H : WgLib c.P L) {Low i : Nat} {Next : Goroutine → World → Prop} {X : World → Prop} (hX : ∀ w w₁, X w → R0 c w w₁ → X w₁) {b₀ : Frame} {a₀ : Act} {ops₀ : Array Oper} {i₀ : Nat} {rest₀ : List Nat} {k₀ : List Item} {cs : List Frame} {mT : Nat}
    (hT : ∀ w, X w → WgLive c.ty c.Wg w → Goes c.P true (R0 c) (D0 c Low) (AtGo c i Next) mT (G (b₀.at (a₀.put ((ops₀[i₀]?).bind (·.dst)) (.tuple #[])) (.inRegion ops₀ rest₀ :: k₀)) cs) w) :
    GoW c.P true (R0 c) (D0 c Low) (AtKdS c Low i Next) (fun w => X w ∧ WgLive c.ty c.Wg w) 40
      (G ((base L.add).at ⟨#[.pointer (some ⟨c.Wg, 0, none⟩), .int .i64 1] ++ Array.replicate 115 undef, []⟩ [.code (body_add L)]) (b₀.at a₀ (.inRegion ops₀ (i₀ :: rest₀) :: k₀) :: cs)) := by
  lib_facts
  have E := envX c Low hX
  simp only [body_add, addFn, Option.getD_some]
  walk_nrm
  repeat (first
    | refine gw_seq E ?_
    | refine gw_skip E ?_
    | refine gw_region_end E ?_
    | refine gw_region_1 E ?_
    | refine gw_region_2 E ?_
    | refine gw_region_4 E ?_
    | refine gw_region_5 E ?_
    | refine gw_region_6 E ?_
    | refine gw_region_7 E ?_
    | refine gw_region_8 E ?_
    | refine gw_region_10 E ?_
    | refine gw_region_12 E ?_
    | refine gw_true E rfl ?_
    | refine gw_false E rfl ?_
    | (refine gw_unwanted E rfl rfl ?_; walk_nrm)
    | refine gw_ret E ?_
    | (refine gw_pure E (.bool false) rfl rfl (by k_ne) rfl H.f_inBubble (x_inBubble_n L) (x_inBubble_b L) (x_inBubble_x L) (x_inBubble_f L) ?_; walk_nrm)
    | (refine gw_opk E rfl rfl (by k_ne) (fun w hF K hK => ?_); go_simp; refine hK _ (by simp [go_sem, *]) ?_; clear hK K hF w; try w_num))
  refine gw_stop E (fun w hF => ?_)
  refine ⟨rfl, _, stepG_mark0 .disable (by simp) rfl rfl (by k_ne) rfl H.f_disable (x_disable_n L) (x_disable_b L) (x_disable_x L) (x_disable_f L), 60, ?_⟩
  revert w
  show GoW c.P true (R0 c) (D0 c Low) (AtA1 c Low i Next) (fun w => X w ∧ WgLive c.ty c.Wg w) 60 _
  walk_nrm
  repeat (first
    | refine gw_seq E ?_
    | refine gw_skip E ?_
    | refine gw_region_end E ?_
    | refine gw_region_1 E ?_
    | refine gw_region_2 E ?_
    | refine gw_region_4 E ?_
    | refine gw_region_5 E ?_
    | refine gw_region_6 E ?_
    | refine gw_region_7 E ?_
    | refine gw_region_8 E ?_
    | refine gw_region_10 E ?_
    | refine gw_region_12 E ?_
    | refine gw_true E rfl ?_
    | refine gw_false E rfl ?_
    | (refine gw_unwanted E rfl rfl ?_; walk_nrm)
    | refine gw_ret E ?_
    | (refine gw_call E rfl rfl (by k_ne) rfl H.f_uAdd (nm_uAdd L) rfl ?_; walk_nrmf uAddFn)
    | (refine gw_pure E (.bool false) rfl rfl (by k_ne) rfl H.f_inBubble (x_inBubble_n L) (x_inBubble_b L) (x_inBubble_x L) (x_inBubble_f L) ?_; walk_nrm)
    | (refine gw_defer E rfl rfl (by k_ne) rfl ?_; walk_nrm)
    | (refine gw_opk E rfl rfl (by k_ne) (fun w hF K hK => ?_); go_simp; refine hK _ (by simp [go_sem, *]) ?_; clear hK K hF w; try w_num))
  refine gw_stop E (fun w hF => ⟨rfl, fun v hv hw => ?_⟩)
  have hF' : ∀ y : Int, X (w.setCell (stA c.Wg) (.int .u64 y)) ∧ WgLive c.ty c.Wg (w.setCell (stA c.Wg) (.int .u64 y)) := fun y =>
    have hl : WgLive c.ty c.Wg (w.setCell (stA c.Wg) (.int .u64 y)) := ⟨_, _, hw.setSt y⟩
    ⟨hX _ _ hF.1 (r0_aside (aside_setCell w (stA c.Wg) _) hl), hl⟩
  rcases Nat.eq_zero_or_pos v with rfl | hvp
  · replace hw : WgAt c.ty c.Wg w 0 0 := by simpa using hw
    have z : (((0 : Nat) : Int) + 1) * KK = KK := by simp
    rw [z]
    have e0 : IntKind.u64.wrap (0 + 4294967296) = KK := by decide
    refine ⟨_, (stepG_add_atomic rfl rfl (by k_ne) rfl H.f_addU64 (x_addU64_n L) (x_addU64_b L) (x_addU64_x L) .u64 (x_addU64_f L) rfl rfl hw.cellSt (hw.thaw 0)).trans (by rw [e0]; rfl), 150, ?_⟩
    have hF2 := hF' KK
    generalize w.setCell (stA c.Wg) (.int .u64 KK) = w' at hF2 ⊢
    clear hw hF hF' hv e0 z w
    revert w'
    show GoW c.P true (R0 c) (D0 c Low) (AtKeS c Low i Next) (fun w => X w ∧ WgLive c.ty c.Wg w) 150 _
    simp only [KK]
    walk_nrm
    repeat (first
      | refine gw_seq E ?_
      | refine gw_skip E ?_
      | refine gw_region_end E ?_
      | refine gw_region_1 E ?_
      | refine gw_region_2 E ?_
      | refine gw_region_4 E ?_
      | refine gw_region_5 E ?_
      | refine gw_region_6 E ?_
      | refine gw_region_7 E ?_
      | refine gw_region_8 E ?_
      | refine gw_region_10 E ?_
      | refine gw_region_12 E ?_
      | refine gw_true E rfl ?_
      | refine gw_false E rfl ?_
      | (refine gw_unwanted E rfl rfl ?_; walk_nrm)
      | refine gw_ret E ?_
      | (refine gw_leave1 E rfl rfl H.f_uAdd rfl ?_; walk_nrm)
      | (refine gw_pure E (.bool false) rfl rfl (by k_ne) rfl H.f_inBubble (x_inBubble_n L) (x_inBubble_b L) (x_inBubble_x L) (x_inBubble_f L) ?_; walk_nrm)
      | (refine gw_conv E rfl rfl (by k_ne) rfl rfl H.underlying_tPU32 H.underlying_tUP H.room_tU32 (fun w hF => live1 hF.2) ?_; walk_nrm)
      | (refine gw_ev E rfl (fun w _ => stepG_markAt .read (by simp) rfl rfl (by k_ne) rfl H.f_raceRead (x_raceRead_n L) (x_raceRead_b L) (x_raceRead_x L) (x_raceRead_f L) (ad := ⟨c.Wg, 1, none⟩) (by simp [Act.eval])) (fun w _ => d0_read c Low w _ rfl) ?_; walk_nrm)
      | (refine gw_opk E rfl rfl (by k_ne) (fun w hF K hK => ?_); go_simp; refine hK _ (by simp [go_sem, *]) ?_; clear hK K hF w; try w_num))
    refine gw_stop E (fun w hF => ?_)
    refine ⟨rfl, _, stepG_unwind_entry (v := .tuple #[]) (evs := #[mk .enable]) rfl H.f_enable (x_enable_n L) (x_enable_b L) (x_enable_x L) (x_enable_f L) (by simp [Extern.Race.none_]) (by simp [mk]) (by simp [mk]), mT + 1, ?_⟩
    revert w
    show GoW c.P true (R0 c) (D0 c Low) (AtGo c i Next) (fun w => X w ∧ WgLive c.ty c.Wg w) (mT + 1) _
    refine gw_leave0 E rfl rfl H.f_add rfl ?_
    exact fun w hF => hT w hF.1 hF.2
  · obtain ⟨V, hV⟩ : ∃ V : Int, V = (v : Int) + 1 := ⟨_, rfl⟩
    obtain ⟨S, hS⟩ : ∃ S : Int, S = V * KK := ⟨_, rfl⟩
    have eS : IntKind.u64.wrap ((v : Int) * KK + 4294967296) = S := by rw [IntKind.wrap_u64, hS, hV]; simp only [KK]; omega
    rw [← hV, ← hS]
    have a1 : S / 4294967296 = V := by rw [hS]; simp only [KK]; omega
    have b1 : bits .and .u64 S 2147483648 = 0 := by rw [hS, hV]; have := Go.ConcN.st_flag (v + 1) 0 (by omega) (by omega); simpa [KK] using this
    have b2 : bits .and .u64 S 2147483647 = 0 := by rw [hS, hV]; have := Go.ConcN.st_waiters (v + 1) 0 (by omega) (by omega); simpa [KK] using this
    have c1 : IntKind.i32.wrap V = V := by rw [IntKind.wrap_i32]; omega
    have hV1 : 1 < V := by omega
    have hV2 : V < 2147483648 := by omega
    have q1 : (V == 1) = false := by simp; omega
    have q2 : decide (V = 1) = false := decide_eq_false (by omega)
    have q3 : decide (V < 0) = false := decide_eq_false (by omega)
    have q4 : decide (0 < V) = true := decide_eq_true (by omega)
    have q5 : (V == 0) = false := by simp; omega
    have q6 : decide (V = 0) = false := decide_eq_false (by omega)
    refine ⟨_, (stepG_add_atomic rfl rfl (by k_ne) rfl H.f_addU64 (x_addU64_n L) (x_addU64_b L) (x_addU64_x L) .u64 (x_addU64_f L) rfl rfl hw.cellSt (hw.thaw 0)).trans (by rw [eS]; rfl), 150, ?_⟩
    have hF2 := hF' S
    generalize w.setCell (stA c.Wg) (.int .u64 S) = w' at hF2 ⊢
    clear hw hF hF' hS hV eS w
    revert w'
    show GoW c.P true (R0 c) (D0 c Low) (AtKeS c Low i Next) (fun w => X w ∧ WgLive c.ty c.Wg w) 150 _
    walk_nrm
    repeat (first
      | refine gw_seq E ?_
      | refine gw_skip E ?_
      | refine gw_region_end E ?_
      | refine gw_region_1 E ?_
      | refine gw_region_2 E ?_
      | refine gw_region_4 E ?_
      | refine gw_region_5 E ?_
      | refine gw_region_6 E ?_
      | refine gw_region_7 E ?_
      | refine gw_region_8 E ?_
      | refine gw_region_10 E ?_
      | refine gw_region_12 E ?_
      | refine gw_true E rfl ?_
      | refine gw_false E rfl ?_
      | (refine gw_unwanted E rfl rfl ?_; walk_nrm)
      | refine gw_ret E ?_
      | refine gw_true E (by simp [Act.eval]; omega) ?_
      | refine gw_false E (by simp [Act.eval]; omega) ?_
      | (refine gw_leave1 E rfl rfl H.f_uAdd rfl ?_; walk_nrm)
      | (refine gw_pure E (.bool false) rfl rfl (by k_ne) rfl H.f_inBubble (x_inBubble_n L) (x_inBubble_b L) (x_inBubble_x L) (x_inBubble_f L) ?_; walk_nrm)
      | (refine gw_opk E rfl rfl (by k_ne) (fun w hF K hK => ?_); go_simp; refine hK _ (by simp [go_sem, *]) ?_; clear hK K hF w; try w_num))
    refine gw_stop E (fun w hF => ?_)
    refine ⟨rfl, _, stepG_unwind_entry (v := .tuple #[]) (evs := #[mk .enable]) rfl H.f_enable (x_enable_n L) (x_enable_b L) (x_enable_x L) (x_enable_f L) (by simp [Extern.Race.none_]) (by simp [mk]) (by simp [mk]), mT + 1, ?_⟩
    revert w
    show GoW c.P true (R0 c) (D0 c Low) (AtGo c i Next) (fun w => X w ∧ WgLive c.ty c.Wg w) (mT + 1) _
    refine gw_leave0 E rfl rfl H.f_add rfl ?_
    exact fun w hF => hT w hF.1 hF.2
end Go.Phase
