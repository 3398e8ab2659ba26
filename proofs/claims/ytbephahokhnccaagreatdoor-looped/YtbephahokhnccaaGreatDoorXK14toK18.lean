import Derived.Test.YtbephahokhnccaaGreatDoorXK12toK13
set_option linter.unusedSectionVars false
set_option maxRecDepth 100000
set_option maxHeartbeats 2000000
namespace Go.Mark
open Go.RowKit Go.Proofs
variable [BaseB]
attribute [local go_sem] wd
structure Frm where
 m : Nat
 bl : Int
 bg : Int
 bb : Int
 text : ByteArray
 mark : SV
 self : Int
 caller : Int
 val : Nat
 data : SV
 gas : Int
 place : Int
 next : Int
def frC (F : Frm) (sv : SV) : Array Value := #[.pointer (some ⟨F.m, 0, none⟩), .int .i64 F.bl, .int .i64 F.bg, .int .i64 F.bb, .string F.text, .slice F.mark.a F.mark.n F.mark.c, .int .i64 F.self, .int .i64 F.caller, .int .u64 (lim F.val 0), .int .u64 (lim F.val 1), .int .u64 (lim F.val 2), .int .u64 (lim F.val 3), .slice F.data.a F.data.n F.data.c, .int .i64 F.gas, .slice sv.a sv.n sv.c, .slice none 0 0, .int .i64 F.place, .int .i64 F.next]
theorem frC_gas (F : Frm) (sv : SV) (x : Int) : (frC F sv).setIfInBounds 13 (.int .i64 x) = frC { F with gas := x } sv := rfl
theorem frC_next (F : Frm) (sv : SV) (x : Int) : (frC F sv).setIfInBounds 17 (.int .i64 x) = frC { F with next := x } sv := rfl
theorem touches_0 (f : Nat) (w : World) : Calls TryQ.prog 291 #[.pointer (some ⟨f, 0, none⟩), .int .u8 0] w fun e w' => e = .returned (.tuple #[.int .i64 0, .nilIface]) /\ w' = w := by
 go_enter TryQ.func291, Tryz.ntmps291
 go_wp2
 simp [bodyPost, results, Tryz.results291, go_sem]
theorem extra_0 (f : Nat) (w : World) : Calls TryQ.prog 292 #[.pointer (some ⟨f, 0, none⟩), .int .u8 0] w fun e w' => e = .returned (.int .i64 0) /\ w' = w := by
 go_enter TryQ.func292, Tryz.ntmps292
 go_wp2
 go_ret
 exact ⟨rfl, rfl⟩
theorem touches_2 (f : Nat) (w : World) : Calls TryQ.prog 291 #[.pointer (some ⟨f, 0, none⟩), .int .u8 2] w fun e w' => e = .returned (.tuple #[.int .i64 0, .nilIface]) /\ w' = w := by
 go_enter TryQ.func291, Tryz.ntmps291
 go_wp2
 simp [bodyPost, results, Tryz.results291, go_sem]
theorem extra_2 (f : Nat) (w : World) : Calls TryQ.prog 292 #[.pointer (some ⟨f, 0, none⟩), .int .u8 2] w fun e w' => e = .returned (.int .i64 0) /\ w' = w := by
 go_enter TryQ.func292, Tryz.ntmps292
 go_wp2
 go_ret
 exact ⟨rfl, rfl⟩
theorem touches_47 (f : Nat) (w : World) : Calls TryQ.prog 291 #[.pointer (some ⟨f, 0, none⟩), .int .u8 47] w fun e w' => e = .returned (.tuple #[.int .i64 0, .nilIface]) /\ w' = w := by
 go_enter TryQ.func291, Tryz.ntmps291
 go_wp2
 simp [bodyPost, results, Tryz.results291, go_sem]
theorem extra_47 (f : Nat) (w : World) : Calls TryQ.prog 292 #[.pointer (some ⟨f, 0, none⟩), .int .u8 47] w fun e w' => e = .returned (.int .i64 0) /\ w' = w := by
 go_enter TryQ.func292, Tryz.ntmps292
 go_wp2
 go_ret
 exact ⟨rfl, rfl⟩
theorem touches_48 (f : Nat) (w : World) : Calls TryQ.prog 291 #[.pointer (some ⟨f, 0, none⟩), .int .u8 48] w fun e w' => e = .returned (.tuple #[.int .i64 0, .nilIface]) /\ w' = w := by
 go_enter TryQ.func291, Tryz.ntmps291
 go_wp2
 simp [bodyPost, results, Tryz.results291, go_sem]
theorem extra_48 (f : Nat) (w : World) : Calls TryQ.prog 292 #[.pointer (some ⟨f, 0, none⟩), .int .u8 48] w fun e w' => e = .returned (.int .i64 0) /\ w' = w := by
 go_enter TryQ.func292, Tryz.ntmps292
 go_wp2
 go_ret
 exact ⟨rfl, rfl⟩
theorem touches_96 (f : Nat) (w : World) : Calls TryQ.prog 291 #[.pointer (some ⟨f, 0, none⟩), .int .u8 96] w fun e w' => e = .returned (.tuple #[.int .i64 0, .nilIface]) /\ w' = w := by
 go_enter TryQ.func291, Tryz.ntmps291
 go_wp2
 simp [bodyPost, results, Tryz.results291, go_sem]
theorem extra_96 (f : Nat) (w : World) : Calls TryQ.prog 292 #[.pointer (some ⟨f, 0, none⟩), .int .u8 96] w fun e w' => e = .returned (.int .i64 0) /\ w' = w := by
 go_enter TryQ.func292, Tryz.ntmps292
 go_wp2
 go_ret
 exact ⟨rfl, rfl⟩
theorem touches_128 (f : Nat) (w : World) : Calls TryQ.prog 291 #[.pointer (some ⟨f, 0, none⟩), .int .u8 128] w fun e w' => e = .returned (.tuple #[.int .i64 0, .nilIface]) /\ w' = w := by
 go_enter TryQ.func291, Tryz.ntmps291
 go_wp2
 simp [bodyPost, results, Tryz.results291, go_sem]
theorem extra_128 (f : Nat) (w : World) : Calls TryQ.prog 292 #[.pointer (some ⟨f, 0, none⟩), .int .u8 128] w fun e w' => e = .returned (.int .i64 0) /\ w' = w := by
 go_enter TryQ.func292, Tryz.ntmps292
 go_wp2
 go_ret
 exact ⟨rfl, rfl⟩
theorem touches_144 (f : Nat) (w : World) : Calls TryQ.prog 291 #[.pointer (some ⟨f, 0, none⟩), .int .u8 144] w fun e w' => e = .returned (.tuple #[.int .i64 0, .nilIface]) /\ w' = w := by
 go_enter TryQ.func291, Tryz.ntmps291
 go_wp2
 simp [bodyPost, results, Tryz.results291, go_sem]
theorem extra_144 (f : Nat) (w : World) : Calls TryQ.prog 292 #[.pointer (some ⟨f, 0, none⟩), .int .u8 144] w fun e w' => e = .returned (.int .i64 0) /\ w' = w := by
 go_enter TryQ.func292, Tryz.ntmps292
 go_wp2
 go_ret
 exact ⟨rfl, rfl⟩
theorem cost293 (w : World) : Calls TryQ.prog 293 #[.slice none 0 0, .int .i64 0] w fun e w' => e = .returned (.int .i64 0) /\ w' = w := by
 go_enter TryQ.func293, Tryz.ntmps293
 go_wp2
 go_ret
 exact ⟨rfl, rfl⟩
theorem words0 (w : World) : Calls TryQ.prog 325 #[.int .i64 0] w fun e w' => e = .returned (.int .i64 0) /\ w' = w := by
 go_enter TryQ.func325, Tryz.ntmps325
 go_wp2
 go_ret
 exact ⟨rfl, rfl⟩
theorem grow294 {W : World} {f o : Nat} {c : Array Value} {t : TypeId} (ho : W.heap[f]? = some (.cells c t (0, 0))) (hc : c[o]? = some (.slice none 0 0)) :
  Calls TryQ.prog 294 #[.pointer (some ⟨f, o, none⟩), .int .i64 0] W fun e w' => e = .returned (.tuple #[]) /\ Below W.heap.size W w' := by
 have hw0 : IntKind.i64.wrap 0 = 0 := by decide
 go_enter TryQ.func294, Tryz.ntmps294
 go_wp2_with fail
 refine wp_region_held_drew (S := fun V => V.heap[f]? = some (.cells c t (0, 0))) (by kernel_rfl) ho (fun hH => ?_)
 refine td (i := 0) (d := some 5) (v := .int .i64 0) rfl rfl (fun V hW => ?_) hH ?_
 ·clear hW hH
  go_simp
 refine td (i := 3) (d := some 8) (v := .pointer (some ⟨f, o, none⟩)) rfl rfl (fun V hW => ?_) hH ?_
 ·clear hW hH
  go_simp
 refine td (i := 4) (d := some 9) (v := .pointer (some ⟨f, o, none⟩)) rfl rfl (fun V hW => ?_) hH ?_
 ·clear hW hH
  go_simp
 refine td (i := 5) (d := some 10) (v := .slice none 0 0) rfl rfl (fun V hW => ?_) hH ?_
 ·have k0 : V.cell? ⟨f, o, none⟩ = some (.slice none 0 0) := by rw [blk_cell hW o]; exact hc
  clear hW hH
  go_simp
 refine td (i := 6) (d := some 11) (v := .int .i64 0) rfl rfl (fun V hW => ?_) hH ?_
 ·clear hW hH
  go_simp
 refine r1 (i := 1) rfl (fun K hK => ?_)
 go_simp
 refine (words0 _).mono ?_
 rintro e W1 ⟨rfl, hw⟩
 subst hw
 go_wp2_with fail
 refine hK.out _ _ hH (fun hH => ?_)
 clear hK K
 refine td (i := 2) (d := some 7) (v := .int .i64 0) rfl rfl (fun V hW => ?_) hH ?_
 ·clear hW hH
  go_simp
 refine td (i := 7) (d := some 12) (v := .int .i64 0) rfl rfl (fun V hW => ?_) hH ?_
 ·clear hW hH
  go_simp
 refine td (i := 8) (d := some 4) (v := .int .i64 0) rfl rfl (fun V hW => ?_) hH ?_
 ·clear hW hH
  go_simp
 refine wpAnyH_done (by kernel_rfl) ?_ _
 go_wp2
 simp [bodyPost, results, Tryz.results294, go_sem]
 exact (Below.refl _ _).drew
theorem instr_end {W : World} {f : Nat} {F : Frm} {sv : SV} (hf : W.heap[f]? = some (.cells (frC F sv) 225 (0, 0))) (hp : (F.text.size : Int) <= F.place) :
  Calls TryQ.prog 261 #[.pointer (some ⟨f, 0, none⟩)] W fun e w' => e = .returned (.int .u8 0) /\ Below W.heap.size W w' := by
 go_enter TryQ.func261, Tryz.ntmps261
 go_wp2_with fail
 refine wp_region_held_drew (S := fun V => V.heap[f]? = some (.cells (frC F sv) 225 (0, 0))) (by kernel_rfl) hf (fun hH => ?_)
 refine td (i := 0) (d := some 3) (v := .pointer (some ⟨f, 0, none⟩)) rfl rfl (fun V hW => ?_) hH ?_
 ·clear hW hH
  go_simp
 refine td (i := 1) (d := some 4) (v := .pointer (some ⟨f, 0, none⟩)) rfl rfl (fun V hW => ?_) hH ?_
 ·clear hW hH
  go_simp
 refine td (i := 2) (d := some 5) (v := .pointer (some ⟨f, 16, none⟩)) rfl rfl (fun V hW => ?_) hH ?_
 ·clear hW hH
  go_simp
 refine td (i := 3) (d := some 6) (v := .int .i64 F.place) rfl rfl (fun V hW => ?_) hH ?_
 ·have k0 := blk_cell hW 16
  simp only [frC, List.getElem?_toArray, List.getElem?_cons_zero, List.getElem?_cons_succ] at k0
  clear hW hH
  go_simp
 refine td (i := 4) (d := some 7) (v := .pointer (some ⟨f, 0, none⟩)) rfl rfl (fun V hW => ?_) hH ?_
 ·clear hW hH
  go_simp
 refine td (i := 5) (d := some 8) (v := .pointer (some ⟨f, 0, none⟩)) rfl rfl (fun V hW => ?_) hH ?_
 ·clear hW hH
  go_simp
 refine td (i := 6) (d := some 9) (v := .pointer (some ⟨f, 4, none⟩)) rfl rfl (fun V hW => ?_) hH ?_
 ·clear hW hH
  go_simp
 refine td (i := 7) (d := some 10) (v := .string F.text) rfl rfl (fun V hW => ?_) hH ?_
 ·have k0 := blk_cell hW 4
  simp only [frC, List.getElem?_toArray, List.getElem?_cons_zero, List.getElem?_cons_succ] at k0
  clear hW hH
  go_simp
 refine td (i := 8) (d := some 11) (v := .int .i64 (F.text.size : Int)) rfl rfl (fun V hW => ?_) hH ?_
 ·clear hW hH
  go_simp
 refine td (i := 9) (d := some 12) (v := .bool (decide (F.place ≥ (F.text.size : Int)))) rfl rfl (fun V hW => ?_) hH ?_
 ·clear hW hH
  go_simp
 refine wpAnyH_done (by kernel_rfl) ?_ _
 go_wp2
 go_ret
 exact ⟨rfl, (Below.refl _ _).drew⟩
theorem instr_at {W : World} {f : Nat} {F : Frm} {sv : SV} (hf : W.heap[f]? = some (.cells (frC F sv) 225 (0, 0))) (p : Nat) (hpl : F.place = (p : Int)) (x : UInt8) (hx : F.text.data[p]? = some x) :
  Calls TryQ.prog 261 #[.pointer (some ⟨f, 0, none⟩)] W fun e w' => e = .returned (.int .u8 (x.toNat : Int)) /\ Below W.heap.size W w' := by
 have hps : p < F.text.size := (Array.getElem?_eq_some_iff.1 hx).1
 have hp : ¬ (F.text.size : Int) <= F.place := by omega
 go_enter TryQ.func261, Tryz.ntmps261
 go_wp2_with fail
 refine wp_region_held_drew (S := fun V => V.heap[f]? = some (.cells (frC F sv) 225 (0, 0))) (by kernel_rfl) hf (fun hH => ?_)
 refine td (i := 0) (d := some 3) (v := .pointer (some ⟨f, 0, none⟩)) rfl rfl (fun V hW => ?_) hH ?_
 ·clear hW hH
  go_simp
 refine td (i := 1) (d := some 4) (v := .pointer (some ⟨f, 0, none⟩)) rfl rfl (fun V hW => ?_) hH ?_
 ·clear hW hH
  go_simp
 refine td (i := 2) (d := some 5) (v := .pointer (some ⟨f, 16, none⟩)) rfl rfl (fun V hW => ?_) hH ?_
 ·clear hW hH
  go_simp
 refine td (i := 3) (d := some 6) (v := .int .i64 F.place) rfl rfl (fun V hW => ?_) hH ?_
 ·have k0 := blk_cell hW 16
  simp only [frC, List.getElem?_toArray, List.getElem?_cons_zero, List.getElem?_cons_succ] at k0
  clear hW hH
  go_simp
 refine td (i := 4) (d := some 7) (v := .pointer (some ⟨f, 0, none⟩)) rfl rfl (fun V hW => ?_) hH ?_
 ·clear hW hH
  go_simp
 refine td (i := 5) (d := some 8) (v := .pointer (some ⟨f, 0, none⟩)) rfl rfl (fun V hW => ?_) hH ?_
 ·clear hW hH
  go_simp
 refine td (i := 6) (d := some 9) (v := .pointer (some ⟨f, 4, none⟩)) rfl rfl (fun V hW => ?_) hH ?_
 ·clear hW hH
  go_simp
 refine td (i := 7) (d := some 10) (v := .string F.text) rfl rfl (fun V hW => ?_) hH ?_
 ·have k0 := blk_cell hW 4
  simp only [frC, List.getElem?_toArray, List.getElem?_cons_zero, List.getElem?_cons_succ] at k0
  clear hW hH
  go_simp
 refine td (i := 8) (d := some 11) (v := .int .i64 (F.text.size : Int)) rfl rfl (fun V hW => ?_) hH ?_
 ·clear hW hH
  go_simp
 refine td (i := 9) (d := some 12) (v := .bool (decide (F.place ≥ (F.text.size : Int)))) rfl rfl (fun V hW => ?_) hH ?_
 ·clear hW hH
  go_simp
 refine wpAnyH_done (by kernel_rfl) ?_ _
 go_wp2_with fail
 refine wp_region_held_drew (S := fun V => V.heap[f]? = some (.cells (frC F sv) 225 (0, 0))) (by kernel_rfl) hf (fun hH => ?_)
 refine td (i := 0) (d := some 13) (v := .pointer (some ⟨f, 0, none⟩)) rfl rfl (fun V hW => ?_) hH ?_
 ·clear hW hH
  go_simp
 refine td (i := 1) (d := some 14) (v := .pointer (some ⟨f, 0, none⟩)) rfl rfl (fun V hW => ?_) hH ?_
 ·clear hW hH
  go_simp
 refine td (i := 2) (d := some 15) (v := .pointer (some ⟨f, 4, none⟩)) rfl rfl (fun V hW => ?_) hH ?_
 ·clear hW hH
  go_simp
 refine td (i := 3) (d := some 16) (v := .string F.text) rfl rfl (fun V hW => ?_) hH ?_
 ·have k0 := blk_cell hW 4
  simp only [frC, List.getElem?_toArray, List.getElem?_cons_zero, List.getElem?_cons_succ] at k0
  clear hW hH
  go_simp
 refine td (i := 4) (d := some 17) (v := .pointer (some ⟨f, 0, none⟩)) rfl rfl (fun V hW => ?_) hH ?_
 ·clear hW hH
  go_simp
 refine td (i := 5) (d := some 18) (v := .pointer (some ⟨f, 0, none⟩)) rfl rfl (fun V hW => ?_) hH ?_
 ·clear hW hH
  go_simp
 refine td (i := 6) (d := some 19) (v := .pointer (some ⟨f, 16, none⟩)) rfl rfl (fun V hW => ?_) hH ?_
 ·clear hW hH
  go_simp
 refine td (i := 7) (d := some 20) (v := .int .i64 (p : Int)) rfl rfl (fun V hW => ?_) hH ?_
 ·have k0 := blk_cell hW 16
  simp only [frC, List.getElem?_toArray, List.getElem?_cons_zero, List.getElem?_cons_succ] at k0
  rw [hpl] at k0
  clear hW hH
  go_simp
 refine td (i := 8) (d := some 21) (v := .int .u8 (x.toNat : Int)) rfl rfl (fun V hW => ?_) hH ?_
 ·clear hW hH
  have hx' : F.text[p] = x := (Array.getElem?_eq_some_iff.1 hx).2
  go_simp
 refine td (i := 9) (d := some 2) (v := .int .u8 (x.toNat : Int)) rfl rfl (fun V hW => ?_) hH ?_
 ·clear hW hH
  go_simp
 refine wpAnyH_done (by kernel_rfl) ?_ _
 go_wp2
 go_ret
 exact ⟨rfl, (Below.refl _ _).drew.drew⟩
end Go.Mark
set_option maxRecDepth 100000
set_option maxHeartbeats 4000000
namespace Go.Mark
open Go.RowKit Go.Proofs
variable [BaseB]
attribute [local go_sem] wd
theorem conv_nil (V : World) : (convert 31 9 (.slice none 0 0)).run TryQ.prog V = .ok (.string ⟨#[]⟩) V := by kernel_rfl
theorem well295 {W : World} {f : Nat} {F : Frm} {sv : SV} (hf : W.heap[f]? = some (.cells (frC F sv) 225 (0, 0))) :
  Calls TryQ.prog 295 #[.pointer (some ⟨f, 0, none⟩), .slice none 0 0] W fun e w' => e = .returned (.iface 174 (.agg #[.int .i64 F.gas, .string ⟨#[]⟩])) /\ Below W.heap.size W w' := by
 go_enter TryQ.func295, Tryz.ntmps295
 go_wp2_with fail
 refine wp_region_held_drew (S := fun V => V.heap[f]? = some (.cells (frC F sv) 225 (0, 0))) (by kernel_rfl) hf (fun hH => ?_)
 refine td (i := 0) (d := some 5) (v := .pointer (some ⟨f, 0, none⟩)) rfl rfl (fun V hW => ?_) hH ?_
 ·clear hW hH
  go_simp
 refine td (i := 1) (d := some 6) (v := .pointer (some ⟨f, 0, none⟩)) rfl rfl (fun V hW => ?_) hH ?_
 ·clear hW hH
  go_simp
 refine td (i := 2) (d := some 7) (v := .pointer (some ⟨f, 13, none⟩)) rfl rfl (fun V hW => ?_) hH ?_
 ·clear hW hH
  go_simp
 refine td (i := 3) (d := some 8) (v := .int .i64 F.gas) rfl rfl (fun V hW => ?_) hH ?_
 ·have k0 := blk_cell hW 13
  simp only [frC, List.getElem?_toArray, List.getElem?_cons_zero, List.getElem?_cons_succ] at k0
  clear hW hH
  go_simp
 refine td (i := 4) (d := some 9) (v := .slice none 0 0) rfl rfl (fun V hW => ?_) hH ?_
 ·clear hW hH
  go_simp
 refine td (i := 5) (d := some 10) (v := .string ⟨#[]⟩) rfl rfl (fun V hW => ?_) hH ?_
 ·have hcv := conv_nil V
  clear hW hH
  go_simp
 refine td (i := 6) (d := some 11) (v := .agg #[.int .i64 F.gas, .string ⟨#[]⟩]) rfl rfl (fun V hW => ?_) hH ?_
 ·clear hW hH
  go_simp
 refine td (i := 7) (d := some 12) (v := .iface 174 (.agg #[.int .i64 F.gas, .string ⟨#[]⟩])) rfl rfl (fun V hW => ?_) hH ?_
 ·clear hW hH
  go_simp
 refine td (i := 8) (d := some 4) (v := .iface 174 (.agg #[.int .i64 F.gas, .string ⟨#[]⟩])) rfl rfl (fun V hW => ?_) hH ?_
 ·clear hW hH
  go_simp
 refine wpAnyH_done (by kernel_rfl) ?_ _
 go_wp2
 go_ret
 exact ⟨rfl, (Below.refl _ _).drew⟩
theorem badly178 {W : World} {f : Nat} {F : Frm} {sv : SV} (hf : W.heap[f]? = some (.cells (frC F sv) 225 (0, 0))) (et : TypeId) (ev : Value) :
  Calls TryQ.prog 178 #[.pointer (some ⟨f, 0, none⟩), .iface et ev] W fun e w' => e = .returned (.iface 217 (.agg #[.int .i64 F.gas, .iface 299 (.pointer (some ⟨W.heap.size, 0, none⟩))])) /\ w'.heap[W.heap.size]? = some (.cells #[.int .i64 F.self, .int .i64 F.place, .iface et ev, .int .i64 F.bl, .int .i64 F.bg, .int .i64 F.bb] 303 (0, 0)) /\ Below W.heap.size W w' := by
 have hfl := blk_lt hf
 go_enter TryQ.func178, Tryz.ntmps178
 go_wp2_with fail
 refine wp_region_held_drew (S := fun V => V.heap[f]? = some (.cells (frC F sv) 225 (0, 0))) (by kernel_rfl) hf (fun hH => ?_)
 refine td (i := 0) (d := some 6) (v := .pointer (some ⟨f, 0, none⟩)) rfl rfl (fun V hW => ?_) hH ?_
 ·clear hW hH
  go_simp
 refine td (i := 1) (d := some 7) (v := .pointer (some ⟨f, 0, none⟩)) rfl rfl (fun V hW => ?_) hH ?_
 ·clear hW hH
  go_simp
 refine td (i := 2) (d := some 8) (v := .pointer (some ⟨f, 6, none⟩)) rfl rfl (fun V hW => ?_) hH ?_
 ·clear hW hH
  go_simp
 refine td (i := 3) (d := some 9) (v := .int .i64 F.self) rfl rfl (fun V hW => ?_) hH ?_
 ·have k0 := blk_cell hW 6
  simp only [frC, List.getElem?_toArray, List.getElem?_cons_zero, List.getElem?_cons_succ] at k0
  clear hW hH
  go_simp
 refine td (i := 4) (d := some 10) (v := .pointer (some ⟨f, 0, none⟩)) rfl rfl (fun V hW => ?_) hH ?_
 ·clear hW hH
  go_simp
 refine td (i := 5) (d := some 11) (v := .pointer (some ⟨f, 0, none⟩)) rfl rfl (fun V hW => ?_) hH ?_
 ·clear hW hH
  go_simp
 refine td (i := 6) (d := some 12) (v := .pointer (some ⟨f, 16, none⟩)) rfl rfl (fun V hW => ?_) hH ?_
 ·clear hW hH
  go_simp
 refine td (i := 7) (d := some 13) (v := .int .i64 F.place) rfl rfl (fun V hW => ?_) hH ?_
 ·have k0 := blk_cell hW 16
  simp only [frC, List.getElem?_toArray, List.getElem?_cons_zero, List.getElem?_cons_succ] at k0
  clear hW hH
  go_simp
 refine td (i := 8) (d := some 14) (v := .iface et ev) rfl rfl (fun V hW => ?_) hH ?_
 ·clear hW hH
  go_simp
 refine td (i := 9) (d := some 15) (v := .pointer (some ⟨f, 0, none⟩)) rfl rfl (fun V hW => ?_) hH ?_
 ·clear hW hH
  go_simp
 refine td (i := 10) (d := some 16) (v := .pointer (some ⟨f, 0, none⟩)) rfl rfl (fun V hW => ?_) hH ?_
 ·clear hW hH
  go_simp
 refine td (i := 11) (d := some 17) (v := .pointer (some ⟨f, 1, none⟩)) rfl rfl (fun V hW => ?_) hH ?_
 ·clear hW hH
  go_simp
 refine td (i := 12) (d := some 18) (v := .agg #[.int .i64 F.bl, .int .i64 F.bg, .int .i64 F.bb]) rfl rfl (fun V hW => ?_) hH ?_
 ·have k0 := blk_cell hW 1
  have k1 := blk_cell hW 2
  have k2 := blk_cell hW 3
  simp only [frC, List.getElem?_toArray, List.getElem?_cons_zero, List.getElem?_cons_succ] at k0 k1 k2
  clear hW hH
  go_simp
 refine td (i := 13) (d := some 19) (v := .agg #[.int .i64 F.self, .int .i64 F.place, .iface et ev, .int .i64 F.bl, .int .i64 F.bg, .int .i64 F.bb]) rfl rfl (fun V hW => ?_) hH ?_
 ·clear hW hH
  go_simp
 refine r1 (i := 14) rfl (fun K hK => ?_)
 go_simp
 refine hK.out _ (W.drew.alloc (.cells #[.int .i64 F.self, .int .i64 F.place, .iface et ev, .int .i64 F.bl, .int .i64 F.bg, .int .i64 F.bb] 303)) (blk_alloc hH) (fun hH => ?_)
 clear hK K
 refine td (i := 15) (d := some 5) (v := .pointer (some ⟨W.heap.size, 0, none⟩)) rfl rfl (fun V hW => ?_) hH ?_
 ·clear hW hH
  go_simp
 refine wpAnyH_done (by kernel_rfl) ?_ _
 have c13 := blk_cell hf 13
 simp only [frC, List.getElem?_toArray, List.getElem?_cons_zero, List.getElem?_cons_succ] at c13
 go_wp2
 go_ret
 exact ⟨rfl, blk_new W.drew _, (Below.refl _ _).drew.alloc (Nat.le_refl _) _⟩
end Go.Mark
set_option maxRecDepth 100000
set_option maxHeartbeats 4000000
namespace Go.Mark
open Go.RowKit Go.Proofs
variable [BaseB]
attribute [local go_sem] wd
theorem lim_byte (n : Nat) (h : n < 256) : lim n 0 = (n : Int) /\ lim n 1 = 0 /\ lim n 2 = 0 /\ lim n 3 = 0 := by
 unfold lim
 refine ⟨?_, ?_, ?_, ?_⟩ <;> simp <;> omega
theorem or_byte (x : Nat) (h : x < 256) : bits .or .u64 0 (x : Int) = (x : Int) := by
 have : ∀ y : Fin 256, bits .or .u64 0 ((y.val : Nat) : Int) = ((y.val : Nat) : Int) := by decide
 exact this ⟨x, h⟩
theorem fromBytes1 {W : World} (b cap x : Nat) (hb : b < W.heap.size) (hx : x < 256) (hc : W.cell? ⟨b, 0, none⟩ = some (.int .u8 (x : Int))) :
  Calls TryQ.prog 327 #[.slice (some ⟨b, 0, none⟩) 1 cap] W fun e w' => e = .returned (wd x) /\ Below W.heap.size W w' := by
 obtain ⟨h0, h1, h2, h3⟩ := lim_byte x hx
 have hw : IntKind.u64.wrap (x : Int) = (x : Int) := IntWalk.u64_in _ (by omega)
 have hw0 : IntKind.i64.wrap 0 = 0 := by decide
 have hor := or_byte x hx
 have hwb : wd x = .agg #[.int .u64 (x : Int), .int .u64 0, .int .u64 0, .int .u64 0] := by unfold wd; rw [h0, h1, h2, h3]
 rw [hwb]
 clear h0 h1 h2 h3 hwb
 go_enter TryQ.func327, Tryz.ntmps327
 go_wp2_with fail
 refine wp_loop_rounds 2 ?_
 rw [rounds_succ]
 go_wp2_with fail
 refine wp_region_held_drew (S := fun V => True) (by kernel_rfl) trivial (fun hH => ?_)
 refine td (i := 0) (d := some 19) (v := .int .i64 0) rfl rfl (fun V hW => ?_) hH ?_
 ·clear hW hH
  go_simp
 refine td (i := 1) (d := some 20) (v := .int .i64 0) rfl rfl (fun V hW => ?_) hH ?_
 ·clear hW hH
  go_simp
 refine td (i := 2) (d := some 21) (v := .pointer (some ⟨W.heap.size + 1, 0, none⟩)) rfl rfl (fun V hW => ?_) hH ?_
 ·clear hW hH
  go_simp
 refine td (i := 4) (d := some 23) (v := .int .u8 (x : Int)) rfl rfl (fun V hW => ?_) hH ?_
 ·clear hW hH
  go_simp
 refine td (i := 5) (d := some 24) (v := .int .u64 (x : Int)) rfl rfl (fun V hW => ?_) hH ?_
 ·clear hW hH
  go_simp
 refine td (i := 6) (d := some 25) (v := .int .i64 0) rfl rfl (fun V hW => ?_) hH ?_
 ·clear hW hH
  go_simp
 refine td (i := 7) (d := some 26) (v := .int .i64 0) rfl rfl (fun V hW => ?_) hH ?_
 ·clear hW hH
  go_simp
 refine td (i := 8) (d := some 27) (v := .int .i64 0) rfl rfl (fun V hW => ?_) hH ?_
 ·clear hW hH
  go_simp
 refine td (i := 9) (d := some 28) (v := .int .u64 (x : Int)) rfl rfl (fun V hW => ?_) hH ?_
 ·clear hW hH
  go_simp
 refine r1 (i := 3) rfl (fun K hK => ?_)
 go_simp
 refine hK.out _ _ trivial (fun hH => ?_)
 clear hK K
 refine td (i := 10) (d := some 29) (v := .int .u64 (x : Int)) rfl rfl (fun V hW => ?_) hH ?_
 ·clear hW hH
  go_simp
 refine td (i := 11) (d := some 30) (v := .pointer (some ⟨W.heap.size + 1, 0, none⟩)) rfl rfl (fun V hW => ?_) hH ?_
 ·clear hW hH
  go_simp
 refine r1 (i := 12) rfl (fun K hK => ?_)
 go_simp
 refine hK.out _ _ trivial (fun hH => ?_)
 clear hK K
 refine wpAnyH_done (by kernel_rfl) ?_ _
 go_wp2_with fail
 rw [rounds_succ]
 go_wp2
 simp [bodyPost, results, Tryz.results327, go_sem]
 exact (ba.alloc (by simp) _).drew
theorem copy1 (W : World) (b : Nat) (s : ByteArray) (x : UInt8) (hx : s.data[0]? = some x) (old : Value) (hc : W.cell? ⟨b, 0, none⟩ = some old) (hf : W.frozen? ⟨b, 0, none⟩ = false) :
  (Builtin.copy_ #[31, 9] 3 #[.slice (some ⟨b, 0, none⟩) 1 32, .string s]).run TryQ.prog W = .ok (.int .i64 1) (W.setCell ⟨b, 0, none⟩ (.int .u8 (x.toNat : Int))) := by
 have hs : 0 < s.size := (Array.getElem?_eq_some_iff.1 hx).1
 have hm : Nat.min s.size 1 = 1 := by show min s.size 1 = 1; omega
 obtain ⟨rest, hr⟩ : ∃ rest, s.data.toList = x :: rest := by
  have h0 : s.data.toList[0]? = some x := by rw [Array.getElem?_toList]; exact hx
  cases h : s.data.toList with
  | nil => rw [h] at h0; simp at h0
  | cons y r => rw [h] at h0; simp at h0; exact ⟨r, by rw [h0]⟩
 have hz : (Go.sizeOf 5).run TryQ.prog W = .ok 1 W := (q_run_sizeOf 5 W).trans (Tryz.sizeOf5 W)
 unfold Builtin.copy_
 simp [run_underlying ((q_underlying 31).trans Tryz.underlying31), Builtin.lenOf, Builtin.firstCells, hm, hz, hr, storeCells, Addr.add]
 rw [run_store TryQ.prog W _ _ _ (by rfl)]
 simp [hc, hf, goInt]
theorem piece1 {W : World} (s : ByteArray) (x : UInt8) (hx : s.data[0]? = some x) :
  Calls TryQ.prog 346 #[.string s, .int .i64 1] W fun e w' => e = .returned (wd x.toNat) /\ Below W.heap.size W w' := by
 have hxl : x.toNat < 256 := x.toNat_lt
 have hn := blk_new (W.alloc (.cells #[.int .u64 0, .int .u64 0, .int .u64 0, .int .u64 0] 41)) (.cells #[.int .u8 0, .int .u8 0, .int .u8 0, .int .u8 0, .int .u8 0, .int .u8 0, .int .u8 0, .int .u8 0, .int .u8 0, .int .u8 0, .int .u8 0, .int .u8 0, .int .u8 0, .int .u8 0, .int .u8 0, .int .u8 0, .int .u8 0, .int .u8 0, .int .u8 0, .int .u8 0, .int .u8 0, .int .u8 0, .int .u8 0, .int .u8 0, .int .u8 0, .int .u8 0, .int .u8 0, .int .u8 0, .int .u8 0, .int .u8 0, .int .u8 0, .int .u8 0] 394)
 have hsz : (W.alloc (.cells #[.int .u64 0, .int .u64 0, .int .u64 0, .int .u64 0] 41)).heap.size = W.heap.size + 1 := by simp
 rw [hsz] at hn
 have hcp := copy1 _ _ s x hx (.int .u8 0) (by rw [blk_cell hn 0]; rfl) (blk_fz hn 0)
 have hn2 := blk_set (i := 0) (v := .int .u8 (x.toNat : Int)) hn
 have hb1 : Below W.heap.size W (((W.alloc (.cells #[.int .u64 0, .int .u64 0, .int .u64 0, .int .u64 0] 41)).alloc (.cells #[.int .u8 0, .int .u8 0, .int .u8 0, .int .u8 0, .int .u8 0, .int .u8 0, .int .u8 0, .int .u8 0, .int .u8 0, .int .u8 0, .int .u8 0, .int .u8 0, .int .u8 0, .int .u8 0, .int .u8 0, .int .u8 0, .int .u8 0, .int .u8 0, .int .u8 0, .int .u8 0, .int .u8 0, .int .u8 0, .int .u8 0, .int .u8 0, .int .u8 0, .int .u8 0, .int .u8 0, .int .u8 0, .int .u8 0, .int .u8 0, .int .u8 0, .int .u8 0] 394)).setCell ⟨W.heap.size + 1, 0, none⟩ (.int .u8 (x.toNat : Int))) := ((ba.alloc (by simp) _).setCell (by dsimp only; omega) _)
 have hnW : (((W.alloc (.cells #[.int .u64 0, .int .u64 0, .int .u64 0, .int .u64 0] 41)).alloc (.cells #[.int .u8 0, .int .u8 0, .int .u8 0, .int .u8 0, .int .u8 0, .int .u8 0, .int .u8 0, .int .u8 0, .int .u8 0, .int .u8 0, .int .u8 0, .int .u8 0, .int .u8 0, .int .u8 0, .int .u8 0, .int .u8 0, .int .u8 0, .int .u8 0, .int .u8 0, .int .u8 0, .int .u8 0, .int .u8 0, .int .u8 0, .int .u8 0, .int .u8 0, .int .u8 0, .int .u8 0, .int .u8 0, .int .u8 0, .int .u8 0, .int .u8 0, .int .u8 0] 394)).setCell ⟨W.heap.size + 1, 0, none⟩ (.int .u8 (x.toNat : Int))).heap[W.heap.size]? = some (.cells #[.int .u64 0, .int .u64 0, .int .u64 0, .int .u64 0] 41 (0, 0)) := blk_set_other (blk_alloc (blk_new W _)) (by omega)
 generalize hV : ((W.alloc (.cells #[.int .u64 0, .int .u64 0, .int .u64 0, .int .u64 0] 41)).alloc (.cells #[.int .u8 0, .int .u8 0, .int .u8 0, .int .u8 0, .int .u8 0, .int .u8 0, .int .u8 0, .int .u8 0, .int .u8 0, .int .u8 0, .int .u8 0, .int .u8 0, .int .u8 0, .int .u8 0, .int .u8 0, .int .u8 0, .int .u8 0, .int .u8 0, .int .u8 0, .int .u8 0, .int .u8 0, .int .u8 0, .int .u8 0, .int .u8 0, .int .u8 0, .int .u8 0, .int .u8 0, .int .u8 0, .int .u8 0, .int .u8 0, .int .u8 0, .int .u8 0] 394)).setCell ⟨W.heap.size + 1, 0, none⟩ (.int .u8 (x.toNat : Int)) = V at hcp hn2 hb1 hnW
 clear hn hsz
 go_enter TryQ.func346, Tryz.ntmps346
 go_wp2_with fail
 refine (fromBytes1 (W.heap.size + 1) 32 x.toNat (blk_lt hn2) hxl (by rw [blk_cell hn2 0]; rfl)).mono ?_
 rintro e w2 ⟨rfl, hb2⟩
 have hnW2 := (hb2.block _ (blk_lt hnW)).trans hnW
 have z0 := blk_cell hnW2 0
 have z1 := blk_cell hnW2 1
 have z2 := blk_cell hnW2 2
 have z3 := blk_cell hnW2 3
 simp only [List.getElem?_toArray, List.getElem?_cons_zero, List.getElem?_cons_succ] at z0 z1 z2 z3
 have y0 := blk_fz hnW2 0
 have y1 := blk_fz hnW2 1
 have y2 := blk_fz hnW2 2
 have y3 := blk_fz hnW2 3
 clear hcp
 go_wp2
 simp [bodyPost, results, Tryz.results346, go_sem, z0, z1, z2, z3]
 have hb3 := hb1.trans (hb2.mono hb1.size)
 exact (((hb3.setCell (by dsimp only; omega) _).setCell (by dsimp only; omega) _).setCell (by dsimp only; omega) _).setCell (by dsimp only; omega) _
end Go.Mark
set_option maxRecDepth 100000
set_option maxHeartbeats 4000000
namespace Go.Mark
open Go.RowKit Go.Proofs
variable [BaseB]
attribute [local go_sem] wd
theorem pushed337 {W : World} {f : Nat} {F : Frm} {sv : SV} (hf : W.heap[f]? = some (.cells (frC F sv) 225 (0, 0))) (p : Nat) (hpl : F.place = (p : Int)) (hnx : F.next = (p : Int) + 2) (hp : p < 1000000) (x : UInt8) (hx : F.text.data[p + 1]? = some x) :
  Calls TryQ.prog 337 #[.pointer (some ⟨f, 0, none⟩)] W fun e w' => e = .returned (wd x.toNat) /\ Below W.heap.size W w' := by
 have hps : p + 1 < F.text.size := (Array.getElem?_eq_some_iff.1 hx).1
 have hx2 : (F.text.extract (p + 1) F.text.size).data[0]? = some x := by
  rw [ByteArray.data_extract, Array.getElem?_extract]
  rw [if_pos (by show 0 < min F.text.size F.text.data.size - (p + 1); have : F.text.data.size = F.text.size := rfl; omega)]
  exact hx
 have hfl := blk_lt hf
 have hn := blk_new W (.cells #[.int .u64 0, .int .u64 0, .int .u64 0, .int .u64 0] 41)
 have hf1 := blk_alloc (p := .cells #[.int .u64 0, .int .u64 0, .int .u64 0, .int .u64 0] 41) hf
 have c16 := blk_cell hf 16
 simp only [frC, List.getElem?_toArray, List.getElem?_cons_zero, List.getElem?_cons_succ] at c16
 rw [hpl] at c16
 have hw1 : IntKind.i64.wrap ((p : Int) + 1) = (p : Int) + 1 := IntWalk.i64_in _ ⟨by omega, by omega⟩
 have hw2 : IntKind.i64.wrap ((p : Int) + 2 - ((p : Int) + 1)) = 1 := by rw [show (p : Int) + 2 - ((p : Int) + 1) = 1 by omega]; decide
 have hb1 : Below W.heap.size W (W.alloc (.cells #[.int .u64 0, .int .u64 0, .int .u64 0, .int .u64 0] 41)) := ba
 go_enter TryQ.func337, Tryz.ntmps337
 go_wp2_with fail
 clear c16
 change Code.wp _ _ _ _ (W.alloc (.cells #[.int .u64 0, .int .u64 0, .int .u64 0, .int .u64 0] 41))
 have hwl : W.heap.size < (W.alloc (.cells #[.int .u64 0, .int .u64 0, .int .u64 0, .int .u64 0] 41)).heap.size := blk_lt hn
 generalize W.alloc (.cells #[.int .u64 0, .int .u64 0, .int .u64 0, .int .u64 0] 41) = W1 at hn hf1 hb1 hwl ⊢
 refine wp_region_held_drew (S := fun V => V.heap[f]? = some (.cells (frC F sv) 225 (0, 0))) (by kernel_rfl) hf1 (fun hH => ?_)
 refine td (i := 0) (d := some 9) (v := .pointer (some ⟨f, 0, none⟩)) rfl rfl (fun V hW => ?_) hH ?_
 ·clear hW hH
  go_simp
 refine td (i := 1) (d := some 10) (v := .pointer (some ⟨f, 0, none⟩)) rfl rfl (fun V hW => ?_) hH ?_
 ·clear hW hH
  go_simp
 refine td (i := 2) (d := some 11) (v := .pointer (some ⟨f, 4, none⟩)) rfl rfl (fun V hW => ?_) hH ?_
 ·clear hW hH
  go_simp
 refine td (i := 3) (d := some 12) (v := .string F.text) rfl rfl (fun V hW => ?_) hH ?_
 ·have k0 := blk_cell hW 4
  simp only [frC, List.getElem?_toArray, List.getElem?_cons_zero, List.getElem?_cons_succ] at k0
  clear hW hH
  go_simp
 refine td (i := 4) (d := some 13) (v := .int .i64 ((p : Int) + 1)) rfl rfl (fun V hW => ?_) hH ?_
 ·clear hW hH
  go_simp
 refine td (i := 5) (d := some 14) (v := .string (F.text.extract (p + 1) F.text.size)) rfl rfl (fun V hW => ?_) hH ?_
 ·clear hW hH
  go_simp
  intro hh
  exfalso
  have := hh (by omega)
  omega
 refine td (i := 6) (d := some 15) (v := .pointer (some ⟨f, 0, none⟩)) rfl rfl (fun V hW => ?_) hH ?_
 ·clear hW hH
  go_simp
 refine td (i := 7) (d := some 16) (v := .pointer (some ⟨f, 0, none⟩)) rfl rfl (fun V hW => ?_) hH ?_
 ·clear hW hH
  go_simp
 refine td (i := 8) (d := some 17) (v := .pointer (some ⟨f, 17, none⟩)) rfl rfl (fun V hW => ?_) hH ?_
 ·clear hW hH
  go_simp
 refine td (i := 9) (d := some 18) (v := .int .i64 ((p : Int) + 2)) rfl rfl (fun V hW => ?_) hH ?_
 ·have k0 := blk_cell hW 17
  simp only [frC, List.getElem?_toArray, List.getElem?_cons_zero, List.getElem?_cons_succ] at k0
  rw [hnx] at k0
  clear hW hH
  go_simp
 refine td (i := 10) (d := some 19) (v := .int .i64 ((p : Int) + 1)) rfl rfl (fun V hW => ?_) hH ?_
 ·clear hW hH
  go_simp
 refine td (i := 11) (d := some 20) (v := .int .i64 1) rfl rfl (fun V hW => ?_) hH ?_
 ·clear hW hH
  go_simp
 refine r1 (i := 12) rfl (fun K hK => ?_)
 go_simp
 refine (piece1 _ x hx2).mono ?_
 rintro e W2 ⟨rfl, hb2⟩
 go_wp2_with fail
 refine hK.out _ _ ((hb2.block _ (blk_lt hH)).trans hH) (fun hH => ?_)
 clear hK K
 have hn2 := (hb2.block _ (blk_lt hn)).trans hn
 have z0 := blk_cell hn2 0
 have z1 := blk_cell hn2 1
 have z2 := blk_cell hn2 2
 have z3 := blk_cell hn2 3
 simp only [List.getElem?_toArray, List.getElem?_cons_zero, List.getElem?_cons_succ] at z0 z1 z2 z3
 have y0 := blk_fz hn2 0
 have y1 := blk_fz hn2 1
 have y2 := blk_fz hn2 2
 have y3 := blk_fz hn2 3
 refine r1 (i := 13) rfl (fun K hK => ?_)
 go_simp
 refine hK.out _ _ (blk_set_other (blk_set_other (blk_set_other (blk_set_other hH (by omega)) (by omega)) (by omega)) (by omega)) (fun hH => ?_)
 clear hK K
 refine wpAnyH_done (by kernel_rfl) ?_ _
 go_wp2
 have hn5 := blk_set4 (.int .u64 (lim x.toNat 0)) (.int .u64 (lim x.toNat 1)) (.int .u64 (lim x.toNat 2)) (.int .u64 (lim x.toNat 3)) hn2
 have hb5 : Below W.heap.size W ((((W2.setCell ⟨W.heap.size, 0, none⟩ (.int .u64 (lim x.toNat 0))).setCell ⟨W.heap.size, 1, none⟩ (.int .u64 (lim x.toNat 1))).setCell ⟨W.heap.size, 2, none⟩ (.int .u64 (lim x.toNat 2))).setCell ⟨W.heap.size, 3, none⟩ (.int .u64 (lim x.toNat 3))) := (((((hb1.trans (((Below.refl _ _).drew.trans hb2).mono hb1.size)).setCell (by dsimp only; omega) _).setCell (by dsimp only; omega) _).setCell (by dsimp only; omega) _).setCell (by dsimp only; omega) _)
 generalize (((W2.setCell ⟨W.heap.size, 0, none⟩ (.int .u64 (lim x.toNat 0))).setCell ⟨W.heap.size, 1, none⟩ (.int .u64 (lim x.toNat 1))).setCell ⟨W.heap.size, 2, none⟩ (.int .u64 (lim x.toNat 2))).setCell ⟨W.heap.size, 3, none⟩ (.int .u64 (lim x.toNat 3)) = V5 at hn5 hb5 ⊢
 clear z0 z1 z2 z3
 have z0 := blk_cell hn5 0
 have z1 := blk_cell hn5 1
 have z2 := blk_cell hn5 2
 have z3 := blk_cell hn5 3
 simp at z0 z1 z2 z3
 simp [bodyPost, results, Tryz.results337, go_sem, z0, z1, z2, z3]
 exact hb5
end Go.Mark
