/-
  Makes beside leavers (3): its stretches.
-/
import Derived.Test.YtbephahokhnccaaGreatXH7toI6
set_option linter.unusedSectionVars false
namespace Go.Mark
open Go.Conc Go.Walk Go.Phase Go.RowKit Go.Conc.Lib Go.ConcR.Gen Go.ConcN.Gen Go.Lift Go.Proofs
open Go.ConcN (WgLive Has RW DWs AtR0 PayAt)
open Go.ConcR (KK WgAt stA smA rd wr mk Payload)
noncomputable def ops31 : Array Oper := match Tryz.f3.body with
  | some (.seq _ (.seq (.region _ o _) _)) => o
  | _ => #[]
noncomputable def k1 : Code := match Tryz.f3.body with
  | some (.seq _ (.seq _ c)) => c
  | _ => .skip
noncomputable def ops32 : Array Oper := match k1 with
  | .seq (.region _ o _) _ => o
  | _ => #[]
noncomputable def k2 : Code := match k1 with
  | .seq _ c => c
  | _ => .skip
noncomputable def ops33 : Array Oper := match k2 with
  | .seq (.region _ o _) _ => o
  | _ => #[]
noncomputable def k3 : Code := match k2 with
  | .seq _ c => c
  | _ => .skip
noncomputable def k6 : Code := match k3 with
  | .seq _ (.seq _ c) => c
  | _ => .skip
theorem k6_eq : k6 = chain p3 .ret := by kernel_rfl
theorem okk1 : okCode Tryz.prog k1 = true := by kernel_rfl
theorem okk2 : okCode Tryz.prog k2 = true := by kernel_rfl
theorem okk3 : okCode Tryz.prog k3 = true := by kernel_rfl
theorem okp3 : okCode Tryz.prog (chain p3 .ret) = true := by kernel_rfl
theorem oko31 : okOps Tryz.prog ops31 = true := by kernel_rfl
theorem oko32 : okOps Tryz.prog ops32 = true := by kernel_rfl
theorem oko33 : okOps Tryz.prog ops33 = true := by kernel_rfl
set_option maxRecDepth 100000 in
theorem ev_eql (p : Nat) (w : World) : Sem.events Tryz.prog (binOp BinOp.eql 23 (Value.pointer (some ⟨p, 0, none⟩)) (Value.pointer none)) w #[] = #[] := by kernel_rfl
set_option maxRecDepth 100000 in
theorem ev_eqn (w : World) : Sem.events Tryz.prog (binOp BinOp.eql 23 (Value.pointer none) (Value.pointer none)) w #[] = #[] := by kernel_rfl
set_option maxRecDepth 100000 in
theorem ev_neq (w : World) : Sem.events Tryz.prog (binOp BinOp.neq 23 (Value.pointer none) (Value.pointer none)) w #[] = #[] := by kernel_rfl
section
variable {h0 : Array Obj} {a : Option Addr} {n cap E1 E2 pp : Nat} {cs : List Frame}
set_option maxRecDepth 100000 in
set_option maxHeartbeats 4000000 in
theorem s31 : GoW Tryz.prog true AtRel DSil (fun g w => g = G ((base 3).at ⟨#[.slice a n cap, undef, .bool false, undef, undef, undef, undef, undef, undef, undef, undef, undef, undef, undef, .agg #[.int .i64 1, .int .u64 0, .int .u64 0, .int .u64 0, .int .u64 0, .int .i64 0, .string ⟨#[]⟩, .slice none 0 0], undef, undef, undef, undef, undef, undef, undef, undef, undef, undef, undef, undef, undef, undef, undef, undef, undef, undef, undef, undef, undef, undef, undef, undef, undef, undef, undef, undef, undef, undef, undef, undef, undef, undef, undef, undef, undef, undef, undef, undef, undef, undef, undef, undef, undef, undef, undef, undef, undef, undef, undef, undef, undef], []⟩ (.inRegion ops31 [1, 2, 3, 4, 5, 6, 7] :: [.code k1])) cs ∧ w.heap = h0) (fun w => w.heap = h0) 30
      (G ((base 3).at ⟨#[.slice a n cap, undef, undef, undef, undef, undef, undef, undef, undef, undef, undef, undef, undef, undef, undef, undef, undef, undef, undef, undef, undef, undef, undef, undef, undef, undef, undef, undef, undef, undef, undef, undef, undef, undef, undef, undef, undef, undef, undef, undef, undef, undef, undef, undef, undef, undef, undef, undef, undef, undef, undef, undef, undef, undef, undef, undef, undef, undef, undef, undef, undef, undef, undef, undef, undef, undef, undef, undef], []⟩ [.code (Tryz.f3.body.getD .skip)]) cs) := by
  have E0 := envS h0
  obtain ⟨be, hbe⟩ : ∃ c, c = k1 := ⟨_, rfl⟩
  have hbe' := hbe
  simp only [k1, Tryz.f3] at hbe'
  rw [← hbe]
  simp only [ops31, Tryz.f3, Option.getD_some]
  rw [← hbe']
  clear hbe hbe'
  try walk_nrm
  repeat (first
    | refine gw_seq E0 ?_
    | refine gw_region_end E0 ?_
    | refine gw_region_1 E0 ?_
    | refine gw_region_8 E0 ?_
    | (refine gw_opk E0 rfl rfl (by k_ne) (fun w hF K hK => ?_); go_simp; refine hK _ (by simp [go_sem, *]) ?_; clear hK K hF w; try w_num))
  exact gw_stop E0 (fun w hw => ⟨rfl, hw⟩)
set_option maxRecDepth 100000 in
set_option maxHeartbeats 4000000 in
theorem s32 : GoW Tryz.prog true AtRel DSil (fun g w => g = G ((base 4).at ⟨#[.slice (some ⟨E1, 0, none⟩) 1 1] ++ Array.replicate 145 undef, []⟩ [.code (Tryz.f4.body.getD .skip)]) ((base 3).at ⟨#[.slice a n cap, undef, .bool false, undef, undef, undef, undef, undef, undef, undef, undef, undef, undef, undef, .agg #[.int .i64 1, .int .u64 0, .int .u64 0, .int .u64 0, .int .u64 0, .int .i64 0, .string ⟨#[]⟩, .slice none 0 0], .slice (some ⟨E1, 0, none⟩) 1 1, undef, undef, undef, undef, undef, undef, undef, undef, undef, undef, undef, undef, undef, undef, undef, undef, undef, undef, undef, undef, undef, undef, undef, undef, undef, undef, undef, undef, undef, undef, undef, undef, undef, undef, undef, undef, undef, undef, undef, undef, undef, undef, undef, undef, undef, undef, undef, undef, undef, undef, undef, undef], []⟩ (.inRegion ops31 [2, 3, 4, 5, 6, 7] :: [.code k1]) :: cs) ∧ w.heap = h0) (fun w => w.heap = h0) 30
      (G ((base 3).at ⟨#[.slice a n cap, undef, .bool false, undef, undef, undef, undef, undef, undef, undef, undef, undef, undef, undef, .agg #[.int .i64 1, .int .u64 0, .int .u64 0, .int .u64 0, .int .u64 0, .int .i64 0, .string ⟨#[]⟩, .slice none 0 0], .slice (some ⟨E1, 0, none⟩) 1 1, undef, undef, undef, undef, undef, undef, undef, undef, undef, undef, undef, undef, undef, undef, undef, undef, undef, undef, undef, undef, undef, undef, undef, undef, undef, undef, undef, undef, undef, undef, undef, undef, undef, undef, undef, undef, undef, undef, undef, undef, undef, undef, undef, undef, undef, undef, undef, undef, undef, undef, undef, undef], []⟩ (.inRegion ops31 [2, 3, 4, 5, 6, 7] :: [.code k1])) cs) := by
  have E0 := envS h0
  obtain ⟨be, hbe⟩ : ∃ c, c = k1 := ⟨_, rfl⟩
  obtain ⟨bc, hbc⟩ : ∃ c, c = Tryz.f4.body.getD .skip := ⟨_, rfl⟩
  rw [← hbe, ← hbc]
  clear hbe
  simp only [ops31, Tryz.f3]
  try walk_nrm
  have hnm : (Tryz.f4.name == "runtime.NumGoroutine") = false := by kernel_rfl
  have hbody : Tryz.f4.body = some bc := by rw [hbc]; kernel_rfl
  refine gw_call E0 rfl rfl (by k_ne) rfl Tryz.func4 hnm hbody ?_
  rw [Tryz.ntmps4]
  clear hnm hbody hbc
  walk_nrm
  exact gw_stop E0 (fun w hw => ⟨rfl, hw⟩)
set_option maxRecDepth 100000 in
set_option maxHeartbeats 4000000 in
theorem s33 : GoW Tryz.prog true AtRel DSil (fun g w => g = G ((base 3).at ⟨#[.slice a n cap, undef, .bool false, .pointer (some ⟨pp, 0, none⟩), .bool true, undef, undef, undef, undef, undef, undef, undef, undef, .tuple #[.pointer (some ⟨pp, 0, none⟩), .bool true], .agg #[.int .i64 1, .int .u64 0, .int .u64 0, .int .u64 0, .int .u64 0, .int .i64 0, .string ⟨#[]⟩, .slice none 0 0], .slice (some ⟨E1, 0, none⟩) 1 1, .tuple #[.pointer (some ⟨pp, 0, none⟩), .bool true], .pointer (some ⟨pp, 0, none⟩), .bool true, undef, .agg #[.int .i64 1, .int .u64 0, .int .u64 0, .int .u64 0, .int .u64 0, .int .i64 0, .string ⟨#[]⟩, .slice none 0 0], .agg #[.int .i64 1, .int .u64 0, .int .u64 0, .int .u64 0, .int .u64 0, .int .i64 0, .string ⟨#[]⟩, .slice none 0 0], undef, undef, undef, undef, undef, undef, undef, undef, undef, undef, undef, undef, undef, undef, undef, undef, undef, undef, undef, undef, undef, undef, undef, undef, undef, undef, undef, undef, undef, undef, undef, undef, undef, undef, undef, undef, undef, undef, undef, undef, undef, undef, undef, undef, undef, undef], []⟩ (.inRegion ops32 [2, 3, 4, 5, 6, 7, 8] :: [.code k2])) cs ∧ w.heap = h0) (fun w => w.heap = h0) 30
      (G ((base 3).at ⟨#[.slice a n cap, undef, .bool false, undef, undef, undef, undef, undef, undef, undef, undef, undef, undef, undef, .agg #[.int .i64 1, .int .u64 0, .int .u64 0, .int .u64 0, .int .u64 0, .int .i64 0, .string ⟨#[]⟩, .slice none 0 0], .slice (some ⟨E1, 0, none⟩) 1 1, .tuple #[.pointer (some ⟨pp, 0, none⟩), .bool true], undef, undef, undef, undef, undef, undef, undef, undef, undef, undef, undef, undef, undef, undef, undef, undef, undef, undef, undef, undef, undef, undef, undef, undef, undef, undef, undef, undef, undef, undef, undef, undef, undef, undef, undef, undef, undef, undef, undef, undef, undef, undef, undef, undef, undef, undef, undef, undef, undef, undef, undef], []⟩ (.inRegion ops31 [3, 4, 5, 6, 7] :: [.code k1])) cs) := by
  have E0 := envS h0
  obtain ⟨be, hbe⟩ : ∃ c, c = k2 := ⟨_, rfl⟩
  have hbe' := hbe
  simp only [k2, k1, Tryz.f3] at hbe'
  rw [← hbe]
  simp only [ops31, ops32, k1, Tryz.f3]
  rw [← hbe']
  clear hbe hbe'
  try walk_nrm
  repeat (first
    | refine gw_seq E0 ?_
    | refine gw_region_end E0 ?_
    | refine gw_region_9 E0 ?_
    | (refine gw_opk E0 rfl rfl (by k_ne) (fun w hF K hK => ?_); go_simp; refine hK _ (by simp [go_sem, *]) ?_; clear hK K hF w; try w_num))
  exact gw_stop E0 (fun w hw => ⟨rfl, hw⟩)
set_option maxRecDepth 100000 in
set_option maxHeartbeats 4000000 in
theorem s34 : GoW Tryz.prog true AtRel DSil (fun g w => g = G ((base 4).at ⟨#[.slice (some ⟨E2, 0, none⟩) 2 2] ++ Array.replicate 145 undef, []⟩ [.code (Tryz.f4.body.getD .skip)]) ((base 3).at ⟨#[.slice a n cap, undef, .bool false, .pointer (some ⟨pp, 0, none⟩), .bool true, undef, undef, undef, undef, undef, undef, undef, undef, .tuple #[.pointer (some ⟨pp, 0, none⟩), .bool true], .agg #[.int .i64 1, .int .u64 0, .int .u64 0, .int .u64 0, .int .u64 0, .int .i64 0, .string ⟨#[]⟩, .slice none 0 0], .slice (some ⟨E1, 0, none⟩) 1 1, .tuple #[.pointer (some ⟨pp, 0, none⟩), .bool true], .pointer (some ⟨pp, 0, none⟩), .bool true, undef, .agg #[.int .i64 1, .int .u64 0, .int .u64 0, .int .u64 0, .int .u64 0, .int .i64 0, .string ⟨#[]⟩, .slice none 0 0], .agg #[.int .i64 1, .int .u64 0, .int .u64 0, .int .u64 0, .int .u64 0, .int .i64 0, .string ⟨#[]⟩, .slice none 0 0], .slice (some ⟨E2, 0, none⟩) 2 2, undef, undef, undef, undef, undef, undef, undef, undef, undef, undef, undef, undef, undef, undef, undef, undef, undef, undef, undef, undef, undef, undef, undef, undef, undef, undef, undef, undef, undef, undef, undef, undef, undef, undef, undef, undef, undef, undef, undef, undef, undef, undef, undef, undef, undef], []⟩ (.inRegion ops32 [3, 4, 5, 6, 7, 8] :: [.code k2]) :: cs) ∧ w.heap = h0) (fun w => w.heap = h0) 30
      (G ((base 3).at ⟨#[.slice a n cap, undef, .bool false, .pointer (some ⟨pp, 0, none⟩), .bool true, undef, undef, undef, undef, undef, undef, undef, undef, .tuple #[.pointer (some ⟨pp, 0, none⟩), .bool true], .agg #[.int .i64 1, .int .u64 0, .int .u64 0, .int .u64 0, .int .u64 0, .int .i64 0, .string ⟨#[]⟩, .slice none 0 0], .slice (some ⟨E1, 0, none⟩) 1 1, .tuple #[.pointer (some ⟨pp, 0, none⟩), .bool true], .pointer (some ⟨pp, 0, none⟩), .bool true, undef, .agg #[.int .i64 1, .int .u64 0, .int .u64 0, .int .u64 0, .int .u64 0, .int .i64 0, .string ⟨#[]⟩, .slice none 0 0], .agg #[.int .i64 1, .int .u64 0, .int .u64 0, .int .u64 0, .int .u64 0, .int .i64 0, .string ⟨#[]⟩, .slice none 0 0], .slice (some ⟨E2, 0, none⟩) 2 2, undef, undef, undef, undef, undef, undef, undef, undef, undef, undef, undef, undef, undef, undef, undef, undef, undef, undef, undef, undef, undef, undef, undef, undef, undef, undef, undef, undef, undef, undef, undef, undef, undef, undef, undef, undef, undef, undef, undef, undef, undef, undef, undef, undef, undef], []⟩ (.inRegion ops32 [3, 4, 5, 6, 7, 8] :: [.code k2])) cs) := by
  have E0 := envS h0
  obtain ⟨be, hbe⟩ : ∃ c, c = k2 := ⟨_, rfl⟩
  obtain ⟨bc, hbc⟩ : ∃ c, c = Tryz.f4.body.getD .skip := ⟨_, rfl⟩
  rw [← hbe, ← hbc]
  clear hbe
  simp only [ops32, k1, Tryz.f3]
  try walk_nrm
  have hnm : (Tryz.f4.name == "runtime.NumGoroutine") = false := by kernel_rfl
  have hbody : Tryz.f4.body = some bc := by rw [hbc]; kernel_rfl
  refine gw_call E0 rfl rfl (by k_ne) rfl Tryz.func4 hnm hbody ?_
  rw [Tryz.ntmps4]
  clear hnm hbody hbc
  walk_nrm
  exact gw_stop E0 (fun w hw => ⟨rfl, hw⟩)
set_option maxRecDepth 100000 in
set_option maxHeartbeats 4000000 in
theorem s35 : GoW Tryz.prog true AtRel DSil (fun g w => g = G ((base 3).at ⟨#[.slice a n cap, undef, .bool false, .pointer (some ⟨pp, 0, none⟩), .bool true, .pointer none, .bool true, undef, undef, undef, undef, undef, undef, .tuple #[.pointer (some ⟨pp, 0, none⟩), .bool true], .agg #[.int .i64 1, .int .u64 0, .int .u64 0, .int .u64 0, .int .u64 0, .int .i64 0, .string ⟨#[]⟩, .slice none 0 0], .slice (some ⟨E1, 0, none⟩) 1 1, .tuple #[.pointer (some ⟨pp, 0, none⟩), .bool true], .pointer (some ⟨pp, 0, none⟩), .bool true, .tuple #[.pointer none, .bool true], .agg #[.int .i64 1, .int .u64 0, .int .u64 0, .int .u64 0, .int .u64 0, .int .i64 0, .string ⟨#[]⟩, .slice none 0 0], .agg #[.int .i64 1, .int .u64 0, .int .u64 0, .int .u64 0, .int .u64 0, .int .i64 0, .string ⟨#[]⟩, .slice none 0 0], .slice (some ⟨E2, 0, none⟩) 2 2, .tuple #[.pointer none, .bool true], .pointer none, .bool true, undef, .slice a n cap, undef, undef, undef, undef, undef, undef, undef, undef, undef, undef, undef, undef, undef, undef, undef, undef, undef, undef, undef, undef, undef, undef, undef, undef, undef, undef, undef, undef, undef, undef, undef, undef, undef, undef, undef, undef, undef, undef, undef, undef], []⟩ (.inRegion ops33 [1, 2, 3, 4, 5, 6] :: [.code k3])) cs ∧ w.heap = h0) (fun w => w.heap = h0) 30
      (G ((base 3).at ⟨#[.slice a n cap, undef, .bool false, .pointer (some ⟨pp, 0, none⟩), .bool true, undef, undef, undef, undef, undef, undef, undef, undef, .tuple #[.pointer (some ⟨pp, 0, none⟩), .bool true], .agg #[.int .i64 1, .int .u64 0, .int .u64 0, .int .u64 0, .int .u64 0, .int .i64 0, .string ⟨#[]⟩, .slice none 0 0], .slice (some ⟨E1, 0, none⟩) 1 1, .tuple #[.pointer (some ⟨pp, 0, none⟩), .bool true], .pointer (some ⟨pp, 0, none⟩), .bool true, undef, .agg #[.int .i64 1, .int .u64 0, .int .u64 0, .int .u64 0, .int .u64 0, .int .i64 0, .string ⟨#[]⟩, .slice none 0 0], .agg #[.int .i64 1, .int .u64 0, .int .u64 0, .int .u64 0, .int .u64 0, .int .i64 0, .string ⟨#[]⟩, .slice none 0 0], .slice (some ⟨E2, 0, none⟩) 2 2, .tuple #[.pointer none, .bool true], undef, undef, undef, undef, undef, undef, undef, undef, undef, undef, undef, undef, undef, undef, undef, undef, undef, undef, undef, undef, undef, undef, undef, undef, undef, undef, undef, undef, undef, undef, undef, undef, undef, undef, undef, undef, undef, undef, undef, undef, undef, undef, undef, undef], []⟩ (.inRegion ops32 [4, 5, 6, 7, 8] :: [.code k2])) cs) := by
  have E0 := envS h0
  obtain ⟨be, hbe⟩ : ∃ c, c = k3 := ⟨_, rfl⟩
  have hbe' := hbe
  simp only [k3, k2, k1, Tryz.f3] at hbe'
  rw [← hbe]
  simp only [ops32, ops33, k2, k1, Tryz.f3]
  rw [← hbe']
  clear hbe hbe'
  try walk_nrm
  repeat (first
    | refine gw_seq E0 ?_
    | refine gw_region_end E0 ?_
    | refine gw_region_7 E0 ?_
    | (refine gw_opk E0 rfl rfl (by k_ne) (fun w hF K hK => ?_); go_simp; refine hK _ (by simp [go_sem, *]) ?_; clear hK K hF w; try w_num))
  exact gw_stop E0 (fun w hw => ⟨rfl, hw⟩)
set_option maxRecDepth 100000 in
set_option maxHeartbeats 4000000 in
theorem s35c : GoW Tryz.prog true AtRel DSil (fun g w => g = G ((base 4).at ⟨#[.slice a n cap] ++ Array.replicate 145 undef, []⟩ [.code (Tryz.f4.body.getD .skip)]) ((base 3).at ⟨#[.slice a n cap, undef, .bool false, .pointer (some ⟨pp, 0, none⟩), .bool true, .pointer none, .bool true, undef, undef, undef, undef, undef, undef, .tuple #[.pointer (some ⟨pp, 0, none⟩), .bool true], .agg #[.int .i64 1, .int .u64 0, .int .u64 0, .int .u64 0, .int .u64 0, .int .i64 0, .string ⟨#[]⟩, .slice none 0 0], .slice (some ⟨E1, 0, none⟩) 1 1, .tuple #[.pointer (some ⟨pp, 0, none⟩), .bool true], .pointer (some ⟨pp, 0, none⟩), .bool true, .tuple #[.pointer none, .bool true], .agg #[.int .i64 1, .int .u64 0, .int .u64 0, .int .u64 0, .int .u64 0, .int .i64 0, .string ⟨#[]⟩, .slice none 0 0], .agg #[.int .i64 1, .int .u64 0, .int .u64 0, .int .u64 0, .int .u64 0, .int .i64 0, .string ⟨#[]⟩, .slice none 0 0], .slice (some ⟨E2, 0, none⟩) 2 2, .tuple #[.pointer none, .bool true], .pointer none, .bool true, undef, .slice a n cap, undef, undef, undef, undef, undef, undef, undef, undef, undef, undef, undef, undef, undef, undef, undef, undef, undef, undef, undef, undef, undef, undef, undef, undef, undef, undef, undef, undef, undef, undef, undef, undef, undef, undef, undef, undef, undef, undef, undef, undef], []⟩ (.inRegion ops33 [1, 2, 3, 4, 5, 6] :: [.code k3]) :: cs) ∧ w.heap = h0) (fun w => w.heap = h0) 30
      (G ((base 3).at ⟨#[.slice a n cap, undef, .bool false, .pointer (some ⟨pp, 0, none⟩), .bool true, .pointer none, .bool true, undef, undef, undef, undef, undef, undef, .tuple #[.pointer (some ⟨pp, 0, none⟩), .bool true], .agg #[.int .i64 1, .int .u64 0, .int .u64 0, .int .u64 0, .int .u64 0, .int .i64 0, .string ⟨#[]⟩, .slice none 0 0], .slice (some ⟨E1, 0, none⟩) 1 1, .tuple #[.pointer (some ⟨pp, 0, none⟩), .bool true], .pointer (some ⟨pp, 0, none⟩), .bool true, .tuple #[.pointer none, .bool true], .agg #[.int .i64 1, .int .u64 0, .int .u64 0, .int .u64 0, .int .u64 0, .int .i64 0, .string ⟨#[]⟩, .slice none 0 0], .agg #[.int .i64 1, .int .u64 0, .int .u64 0, .int .u64 0, .int .u64 0, .int .i64 0, .string ⟨#[]⟩, .slice none 0 0], .slice (some ⟨E2, 0, none⟩) 2 2, .tuple #[.pointer none, .bool true], .pointer none, .bool true, undef, .slice a n cap, undef, undef, undef, undef, undef, undef, undef, undef, undef, undef, undef, undef, undef, undef, undef, undef, undef, undef, undef, undef, undef, undef, undef, undef, undef, undef, undef, undef, undef, undef, undef, undef, undef, undef, undef, undef, undef, undef, undef, undef], []⟩ (.inRegion ops33 [1, 2, 3, 4, 5, 6] :: [.code k3])) cs) := by
  have E0 := envS h0
  obtain ⟨be, hbe⟩ : ∃ c, c = k3 := ⟨_, rfl⟩
  obtain ⟨bc, hbc⟩ : ∃ c, c = Tryz.f4.body.getD .skip := ⟨_, rfl⟩
  rw [← hbe, ← hbc]
  clear hbe
  simp only [ops33, k1, k2, Tryz.f3]
  try walk_nrm
  have hnm : (Tryz.f4.name == "runtime.NumGoroutine") = false := by kernel_rfl
  have hbody : Tryz.f4.body = some bc := by rw [hbc]; kernel_rfl
  refine gw_call E0 rfl rfl (by k_ne) rfl Tryz.func4 hnm hbody ?_
  rw [Tryz.ntmps4]
  clear hnm hbody hbc
  walk_nrm
  exact gw_stop E0 (fun w hw => ⟨rfl, hw⟩)
set_option maxRecDepth 100000 in
set_option maxHeartbeats 4000000 in
theorem s36y (p3 : Nat) : GoW Tryz.prog true AtRel DSil (fun g w => (∃ T : Array Value, g = G ((base 3).at ⟨T, []⟩ [.code k6]) cs ∧ T.size = 68 ∧ T[7]? = some (.pointer (some ⟨p3, 0, none⟩))) ∧ w.heap = h0) (fun w => w.heap = h0) 80
      (G ((base 3).at ⟨#[.slice a n cap, undef, .bool false, .pointer (some ⟨pp, 0, none⟩), .bool true, .pointer none, .bool true, undef, undef, undef, undef, undef, undef, .tuple #[.pointer (some ⟨pp, 0, none⟩), .bool true], .agg #[.int .i64 1, .int .u64 0, .int .u64 0, .int .u64 0, .int .u64 0, .int .i64 0, .string ⟨#[]⟩, .slice none 0 0], .slice (some ⟨E1, 0, none⟩) 1 1, .tuple #[.pointer (some ⟨pp, 0, none⟩), .bool true], .pointer (some ⟨pp, 0, none⟩), .bool true, .tuple #[.pointer none, .bool true], .agg #[.int .i64 1, .int .u64 0, .int .u64 0, .int .u64 0, .int .u64 0, .int .i64 0, .string ⟨#[]⟩, .slice none 0 0], .agg #[.int .i64 1, .int .u64 0, .int .u64 0, .int .u64 0, .int .u64 0, .int .i64 0, .string ⟨#[]⟩, .slice none 0 0], .slice (some ⟨E2, 0, none⟩) 2 2, .tuple #[.pointer none, .bool true], .pointer none, .bool true, undef, .slice a n cap, .tuple #[.pointer (some ⟨p3, 0, none⟩), .bool true], undef, undef, undef, undef, undef, undef, undef, undef, undef, undef, undef, undef, undef, undef, undef, undef, undef, undef, undef, undef, undef, undef, undef, undef, undef, undef, undef, undef, undef, undef, undef, undef, undef, undef, undef, undef, undef, undef, undef], []⟩ (.inRegion ops33 [2, 3, 4, 5, 6] :: [.code k3])) cs) := by
  have E0 := envS h0
  obtain ⟨be, hbe⟩ : ∃ c, c = k6 := ⟨_, rfl⟩
  have hbe' := hbe
  simp only [k6, k3, k2, k1, Tryz.f3] at hbe'
  rw [← hbe]
  simp only [ops33, k3, k2, k1, Tryz.f3]
  rw [← hbe']
  clear hbe hbe'
  try walk_nrm
  repeat (first
    | refine gw_seq E0 ?_
    | refine gw_skip E0 ?_
    | refine gw_region_end E0 ?_
    | refine gw_region_2 E0 ?_
    | refine gw_region (l := [0, 1, 2, 3, 4, 5, 6, 7, 8, 9, 10, 11, 12, 13, 14, 15, 16, 17]) E0 rfl ?_
    | refine gw_false E0 rfl ?_
    | (refine gw_opk E0 rfl rfl (by k_ne) (fun w hF K hK => ?_); go_simp; refine hK _ (by simp [go_sem, *, ev_eql, ev_neq]) ?_; clear hK K hF w; try w_num))
  exact gw_stop E0 (fun w hw => ⟨⟨_, rfl, by rfl, by rfl⟩, hw⟩)
set_option maxRecDepth 100000 in
set_option maxHeartbeats 4000000 in
theorem s36n : GoW Tryz.prog true AtRel DSil (fun g w => (∃ (T : Array Value) (todo : List Item), g = G { (base 3).at ⟨T, []⟩ todo with mode := .returning } cs ∧ T[2]? = some (.bool true)) ∧ w.heap = h0) (fun w => w.heap = h0) 80
      (G ((base 3).at ⟨#[.slice a n cap, undef, .bool false, .pointer (some ⟨pp, 0, none⟩), .bool true, .pointer none, .bool true, undef, undef, undef, undef, undef, undef, .tuple #[.pointer (some ⟨pp, 0, none⟩), .bool true], .agg #[.int .i64 1, .int .u64 0, .int .u64 0, .int .u64 0, .int .u64 0, .int .i64 0, .string ⟨#[]⟩, .slice none 0 0], .slice (some ⟨E1, 0, none⟩) 1 1, .tuple #[.pointer (some ⟨pp, 0, none⟩), .bool true], .pointer (some ⟨pp, 0, none⟩), .bool true, .tuple #[.pointer none, .bool true], .agg #[.int .i64 1, .int .u64 0, .int .u64 0, .int .u64 0, .int .u64 0, .int .i64 0, .string ⟨#[]⟩, .slice none 0 0], .agg #[.int .i64 1, .int .u64 0, .int .u64 0, .int .u64 0, .int .u64 0, .int .i64 0, .string ⟨#[]⟩, .slice none 0 0], .slice (some ⟨E2, 0, none⟩) 2 2, .tuple #[.pointer none, .bool true], .pointer none, .bool true, undef, .slice a n cap, .tuple #[.pointer none, .bool true], undef, undef, undef, undef, undef, undef, undef, undef, undef, undef, undef, undef, undef, undef, undef, undef, undef, undef, undef, undef, undef, undef, undef, undef, undef, undef, undef, undef, undef, undef, undef, undef, undef, undef, undef, undef, undef, undef, undef], []⟩ (.inRegion ops33 [2, 3, 4, 5, 6] :: [.code k3])) cs) := by
  have E0 := envS h0
  obtain ⟨be, hbe⟩ : ∃ c, c = k6 := ⟨_, rfl⟩
  have hbe' := hbe
  simp only [k6, k3, k2, k1, Tryz.f3] at hbe'
  simp only [ops33, k3, k2, k1, Tryz.f3]
  rw [← hbe']
  clear hbe hbe'
  try walk_nrm
  repeat (first
    | refine gw_seq E0 ?_
    | refine gw_skip E0 ?_
    | refine gw_ret E0 ?_
    | refine gw_region_end E0 ?_
    | refine gw_region_1 E0 ?_
    | refine gw_region_2 E0 ?_
    | refine gw_region (l := [0, 1, 2, 3, 4, 5, 6, 7, 8, 9, 10, 11, 12, 13, 14, 15, 16, 17]) E0 rfl ?_
    | refine gw_true E0 rfl ?_
    | refine gw_false E0 rfl ?_
    | (refine gw_opk E0 rfl rfl (by k_ne) (fun w hF K hK => ?_); go_simp; refine hK _ (by simp [go_sem, *, ev_eql, ev_eqn, ev_neq]) ?_; clear hK K hF w; try w_num))
  exact gw_stop E0 (fun w hw => ⟨⟨_, _, rfl, by rfl⟩, hw⟩)
theorem s37 (T : Array Value) (hT : T[2]? = some (.bool true)) : GoW Tryz.prog true AtRel DSil (fun g w => (∃ (T : Array Value) (todo : List Item), g = G { (base 3).at ⟨T, []⟩ todo with mode := .returning } cs ∧ T[2]? = some (.bool true)) ∧ w.heap = h0) (fun w => w.heap = h0) 5
      (G ((base 3).at ⟨T, []⟩ [.code .ret]) cs) := by
  have E0 := envS h0
  refine gw_ret E0 ?_
  exact gw_stop E0 (fun w hw => ⟨⟨_, _, rfl, hT⟩, hw⟩)
end
end Go.Mark
/-
  Makes beside leavers (3): from its entry to its return.
-/
set_option linter.unusedSectionVars false
namespace Go.Mark
open Go.Conc Go.Walk Go.Phase Go.RowKit Go.Conc.Lib Go.ConcR.Gen Go.ConcN.Gen Go.Lift Go.Proofs
open Go.ConcN (WgLive Has RW DWs AtR0 PayAt)
open Go.ConcR (KK WgAt stA smA rd wr mk Payload)
theorem lit68 (T : Array Value) (h : T.size = 68) : ∃ t : Nat → Value, T = #[t 0, t 1, t 2, t 3, t 4, t 5, t 6, t 7, t 8, t 9, t 10, t 11, t 12, t 13, t 14, t 15, t 16, t 17, t 18, t 19, t 20, t 21, t 22, t 23, t 24, t 25, t 26, t 27, t 28, t 29, t 30, t 31, t 32, t 33, t 34, t 35, t 36, t 37, t 38, t 39, t 40, t 41, t 42, t 43, t 44, t 45, t 46, t 47, t 48, t 49, t 50, t 51, t 52, t 53, t 54, t 55, t 56, t 57, t 58, t 59, t 60, t 61, t 62, t 63, t 64, t 65, t 66, t 67] ∧ ∀ i x, T[i]? = some x → t i = x := by
  refine ⟨fun i => T[i]?.getD undef, ?_, fun i x hx => by simp [hx]⟩
  have e : #[T[0]?.getD undef, T[1]?.getD undef, T[2]?.getD undef, T[3]?.getD undef, T[4]?.getD undef, T[5]?.getD undef, T[6]?.getD undef, T[7]?.getD undef, T[8]?.getD undef, T[9]?.getD undef, T[10]?.getD undef, T[11]?.getD undef, T[12]?.getD undef, T[13]?.getD undef, T[14]?.getD undef, T[15]?.getD undef, T[16]?.getD undef, T[17]?.getD undef, T[18]?.getD undef, T[19]?.getD undef, T[20]?.getD undef, T[21]?.getD undef, T[22]?.getD undef, T[23]?.getD undef, T[24]?.getD undef, T[25]?.getD undef, T[26]?.getD undef, T[27]?.getD undef, T[28]?.getD undef, T[29]?.getD undef, T[30]?.getD undef, T[31]?.getD undef, T[32]?.getD undef, T[33]?.getD undef, T[34]?.getD undef, T[35]?.getD undef, T[36]?.getD undef, T[37]?.getD undef, T[38]?.getD undef, T[39]?.getD undef, T[40]?.getD undef, T[41]?.getD undef, T[42]?.getD undef, T[43]?.getD undef, T[44]?.getD undef, T[45]?.getD undef, T[46]?.getD undef, T[47]?.getD undef, T[48]?.getD undef, T[49]?.getD undef, T[50]?.getD undef, T[51]?.getD undef, T[52]?.getD undef, T[53]?.getD undef, T[54]?.getD undef, T[55]?.getD undef, T[56]?.getD undef, T[57]?.getD undef, T[58]?.getD undef, T[59]?.getD undef, T[60]?.getD undef, T[61]?.getD undef, T[62]?.getD undef, T[63]?.getD undef, T[64]?.getD undef, T[65]?.getD undef, T[66]?.getD undef, T[67]?.getD undef] = ((List.range 68).map fun i => T[i]?.getD undef).toArray := by rfl
  rw [e]
  refine Array.ext (by simp [h]) fun i h1 h2 => ?_
  simp [h1]
/-- the account of the two worlds ahead -/
abbrev d1 : AccD := ⟨1, 0, 0, ByteArray.empty, []⟩
abbrev e1 : AccD × SV := (d1, ⟨none, 0, 0⟩)
theorem d1_cells : accCells d1 ⟨none, 0, 0⟩ = [.int .i64 1, .int .u64 0, .int .u64 0, .int .u64 0, .int .u64 0, .int .i64 0, .string ⟨#[]⟩, .slice none 0 0] := by
  simp [accCells, lim]
  rfl
theorem sound1 : Sound ([e1].map (·.1)) := by
  refine ⟨by simp, fun d hd => ?_, by simp, by simp; decide⟩
  simp only [List.map_cons, List.map_nil, List.mem_singleton] at hd
  subst hd
  exact ⟨by decide, by decide, by decide, by decide, by decide, by decide, List.nodup_nil⟩
theorem sound2 : ¬ Sound ([e1, e1].map (·.1)) := fun h => by
  have := h.2.2.1
  simp at this
theorem inr1 (u : World) : InR (u.alloc (.cells #[.int .i64 1, .int .u64 0, .int .u64 0, .int .u64 0, .int .u64 0, .int .i64 0, .string ⟨#[]⟩, .slice none 0 0] 31)) (some ⟨u.heap.size, 0, none⟩) [e1] := by
  refine ⟨.inr ⟨_, _, rfl, fun i p hp j v hj => ?_⟩, fun p hp => ?_, fun p hp => ?_, fun p hp => ?_, fun p hp => ?_, by decide⟩
  · obtain ⟨hi, rfl⟩ := List.getElem?_eq_some_iff.1 hp
    simp only [List.length_singleton] at hi
    have : i = 0 := by omega
    subst this
    simp only [List.getElem_cons_zero, d1_cells] at hj
    simp only [Nat.zero_mul, Nat.zero_add]
    rw [World.cell?_alloc_new]
    simpa using hj
  all_goals (rw [List.mem_singleton.1 hp])
  · exact ⟨rfl, .inl rfl⟩
  · show 0 < M
    decide
  · exact (by decide : (0 : Nat) < 2199023255552)
  · exact fun q hq => by cases hq
theorem inr2 (u : World) : InR (u.alloc (.cells #[.int .i64 1, .int .u64 0, .int .u64 0, .int .u64 0, .int .u64 0, .int .i64 0, .string ⟨#[]⟩, .slice none 0 0, .int .i64 1, .int .u64 0, .int .u64 0, .int .u64 0, .int .u64 0, .int .i64 0, .string ⟨#[]⟩, .slice none 0 0] 31)) (some ⟨u.heap.size, 0, none⟩) [e1, e1] := by
  refine ⟨.inr ⟨_, _, rfl, fun i p hp j v hj => ?_⟩, fun p hp => ?_, fun p hp => ?_, fun p hp => ?_, fun p hp => ?_, by decide⟩
  · obtain ⟨hi, rfl⟩ := List.getElem?_eq_some_iff.1 hp
    simp only [List.length_cons, List.length_nil] at hi
    have hi2 : i = 0 ∨ i = 1 := by omega
    have hjl : j < 8 := by
      have := (List.getElem?_eq_some_iff.1 hj).1
      exact this
    rcases hi2 with rfl | rfl
    · simp only [List.getElem_cons_zero, d1_cells] at hj
      simp only [Nat.zero_mul, Nat.zero_add]
      rw [World.cell?_alloc_new]
      match j, hjl, hj with
      | 0, _, hj | 1, _, hj | 2, _, hj | 3, _, hj | 4, _, hj | 5, _, hj | 6, _, hj | 7, _, hj => simpa using hj
    · simp only [List.getElem_cons_succ, List.getElem_cons_zero, d1_cells] at hj
      rw [Nat.one_mul, Nat.zero_add, World.cell?_alloc_new]
      match j, hjl, hj with
      | 0, _, hj | 1, _, hj | 2, _, hj | 3, _, hj | 4, _, hj | 5, _, hj | 6, _, hj | 7, _, hj => simpa using hj
  all_goals
    have hp' : p = e1 := by
      simp only [List.mem_cons, List.not_mem_nil, or_false, or_self] at hp
      exact hp
    rw [hp']
  · exact ⟨rfl, .inl rfl⟩
  · show 0 < M
    decide
  · exact (by decide : (0 : Nat) < 2199023255552)
  · exact fun q hq => by cases hq
noncomputable def o311 : Oper := (ops31[1]?).getD default
theorem o311_at : ops31[1]? = some o311 := by kernel_rfl
noncomputable def o322 : Oper := (ops32[2]?).getD default
theorem o322_at : ops32[2]? = some o322 := by kernel_rfl
section
variable {ds : List (AccD × SV)} {a : Option Addr} {n cap E1 E2 pp : Nat}
set_option maxRecDepth 100000 in
set_option maxHeartbeats 4000000 in
theorem new31 (u : World) : (execOp (Act.eval ⟨#[.slice a n cap, undef, .bool false, undef, undef, undef, undef, undef, undef, undef, undef, undef, undef, undef, .agg #[.int .i64 1, .int .u64 0, .int .u64 0, .int .u64 0, .int .u64 0, .int .i64 0, .string ⟨#[]⟩, .slice none 0 0], undef, undef, undef, undef, undef, undef, undef, undef, undef, undef, undef, undef, undef, undef, undef, undef, undef, undef, undef, undef, undef, undef, undef, undef, undef, undef, undef, undef, undef, undef, undef, undef, undef, undef, undef, undef, undef, undef, undef, undef, undef, undef, undef, undef, undef, undef, undef, undef, undef, undef, undef, undef, undef], []⟩) o311).run TryQ.prog u = .ok (.value (.slice (some ⟨u.heap.size, 0, none⟩) 1 1)) (u.alloc (.cells #[.int .i64 1, .int .u64 0, .int .u64 0, .int .u64 0, .int .u64 0, .int .i64 0, .string ⟨#[]⟩, .slice none 0 0] 31)) := by
  dsimp only [o311, ops31, Tryz.f3, List.getElem?_toArray, List.getElem?_cons_succ, List.getElem?_cons_zero, Option.getD_some]
  go_simp
set_option maxRecDepth 100000 in
set_option maxHeartbeats 4000000 in
theorem new32 (u : World) : (execOp (Act.eval ⟨#[.slice a n cap, undef, .bool false, .pointer (some ⟨pp, 0, none⟩), .bool true, undef, undef, undef, undef, undef, undef, undef, undef, .tuple #[.pointer (some ⟨pp, 0, none⟩), .bool true], .agg #[.int .i64 1, .int .u64 0, .int .u64 0, .int .u64 0, .int .u64 0, .int .i64 0, .string ⟨#[]⟩, .slice none 0 0], .slice (some ⟨E1, 0, none⟩) 1 1, .tuple #[.pointer (some ⟨pp, 0, none⟩), .bool true], .pointer (some ⟨pp, 0, none⟩), .bool true, undef, .agg #[.int .i64 1, .int .u64 0, .int .u64 0, .int .u64 0, .int .u64 0, .int .i64 0, .string ⟨#[]⟩, .slice none 0 0], .agg #[.int .i64 1, .int .u64 0, .int .u64 0, .int .u64 0, .int .u64 0, .int .i64 0, .string ⟨#[]⟩, .slice none 0 0], undef, undef, undef, undef, undef, undef, undef, undef, undef, undef, undef, undef, undef, undef, undef, undef, undef, undef, undef, undef, undef, undef, undef, undef, undef, undef, undef, undef, undef, undef, undef, undef, undef, undef, undef, undef, undef, undef, undef, undef, undef, undef, undef, undef, undef, undef], []⟩) o322).run TryQ.prog u = .ok (.value (.slice (some ⟨u.heap.size, 0, none⟩) 2 2)) (u.alloc (.cells #[.int .i64 1, .int .u64 0, .int .u64 0, .int .u64 0, .int .u64 0, .int .i64 0, .string ⟨#[]⟩, .slice none 0 0, .int .i64 1, .int .u64 0, .int .u64 0, .int .u64 0, .int .u64 0, .int .i64 0, .string ⟨#[]⟩, .slice none 0 0] 31)) := by
  dsimp only [o322, ops32, k1, Tryz.f3, List.getElem?_toArray, List.getElem?_cons_succ, List.getElem?_cons_zero, Option.getD_some]
  go_simp
end
end Go.Mark
