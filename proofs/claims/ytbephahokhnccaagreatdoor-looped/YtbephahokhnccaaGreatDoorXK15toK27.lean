import Derived.Test.YtbephahokhnccaaGreatDoorK23
set_option linter.unusedSectionVars false
set_option maxRecDepth 100000
set_option maxHeartbeats 4000000
namespace Go.Mark
open Go.RowKit Go.Proofs
variable [BaseB]
attribute [local go_sem] wd
theorem pay_yes {W : World} {f : Nat} {F : Frm} {sv : SV} (hf : W.heap[f]? = some (.cells (frC F sv) 225 (0, 0))) (i t l g : Int)
  (hsh : ∀ w, Calls TryQ.prog 290 #[.int .u8 i] w fun e w' => e = .returned (.tuple #[.agg #[.int .i64 t, .int .i64 l, .int .i64 g], .bool true]) /\ Below w.heap.size w w')
  (hto : ∀ w, Calls TryQ.prog 291 #[.pointer (some ⟨f, 0, none⟩), .int .u8 i] w fun e w' => e = .returned (.tuple #[.int .i64 0, .nilIface]) /\ w' = w)
  (hex : ∀ w, Calls TryQ.prog 292 #[.pointer (some ⟨f, 0, none⟩), .int .u8 i] w fun e w' => e = .returned (.int .i64 0) /\ w' = w)
  (ht : t <= sv.n) (hl0 : 0 <= l) (hl : (sv.n : Int) - t + l <= 1024) (hg0 : 0 <= g) (hg1 : g < 100000) (hgs : 0 <= F.gas) (hgs' : F.gas < 100000000) (hpay : g <= F.gas) :
  Calls TryQ.prog 262 #[.pointer (some ⟨f, 0, none⟩), .int .u8 i] W fun e w' => e = .returned .nilIface /\ w'.heap[f]? = some (.cells (frC { F with gas := F.gas - g } sv) 225 (0, 0)) /\ Pres [f] [] W w' := by
 have i4 : IntKind.i64.wrap (F.gas - g) = F.gas - g := IntWalk.i64_in _ ⟨by omega, by omega⟩
 have d3 : ¬ F.gas < g := by omega
 have d1 : ¬ (sv.n : Int) < t := by omega
 have d2 : ¬ (1024 < (sv.n : Int) - t + l) := by omega
 have i1 : IntKind.i64.wrap ((sv.n : Int) - t) = (sv.n : Int) - t := IntWalk.i64_in _ ⟨by omega, by omega⟩
 have i2 : IntKind.i64.wrap ((sv.n : Int) - t + l) = (sv.n : Int) - t + l := IntWalk.i64_in _ ⟨by omega, by omega⟩
 have i3 : IntKind.i64.wrap g = g := IntWalk.i64_in _ ⟨by omega, by omega⟩
 clear ht hl0 hl
 go_enter TryQ.func262, Tryz.ntmps262
 go_wp2_with fail
 refine (hsh _).mono ?_
 rintro e w1 ⟨rfl, hb1⟩
 clear hsh
 have hf1 := (hb1.block _ (blk_lt hf)).trans hf
 have hf2 := blk_alloc (p := .cells #[.int .i64 t, .int .i64 l, .int .i64 g] 369) hf1
 have hs2 := blk_new w1 (.cells #[.int .i64 t, .int .i64 l, .int .i64 g] 369)
 have hb2 : Below W.heap.size W (w1.alloc (.cells #[.int .i64 t, .int .i64 l, .int .i64 g] 369)) := hb1.trans (ba.mono hb1.size)
 go_wp2_with fail
 change Code.wp _ _ _ _ (w1.alloc (.cells #[.int .i64 t, .int .i64 l, .int .i64 g] 369))
 generalize w1.alloc (.cells #[.int .i64 t, .int .i64 l, .int .i64 g] 369) = w2 at hf2 hs2 hb2 ⊢
 refine wp_region_held_drew (S := fun V => V.heap[f]? = some (.cells (frC F sv) 225 (0, 0)) /\ V.heap[w1.heap.size]? = some (.cells #[.int .i64 t, .int .i64 l, .int .i64 g] 369 (0, 0))) (by kernel_rfl) ⟨hf2, hs2⟩ (fun hH => ?_)
 refine td (i := 0) (d := some 18) (v := .pointer (some ⟨f, 0, none⟩)) rfl rfl (fun V hW => ?_) hH ?_
 ·clear hW hH
  go_simp
 refine td (i := 1) (d := some 19) (v := .pointer (some ⟨f, 0, none⟩)) rfl rfl (fun V hW => ?_) hH ?_
 ·clear hW hH
  go_simp
 refine td (i := 2) (d := some 20) (v := .pointer (some ⟨f, 14, none⟩)) rfl rfl (fun V hW => ?_) hH ?_
 ·clear hW hH
  go_simp
 refine td (i := 3) (d := some 21) (v := .slice sv.a sv.n sv.c) rfl rfl (fun V hW => ?_) hH ?_
 ·have k0 := blk_cell hW.1 14
  simp only [frC, List.getElem?_toArray, List.getElem?_cons_zero, List.getElem?_cons_succ] at k0
  clear hW hH
  go_simp
 refine td (i := 4) (d := some 22) (v := .int .i64 (sv.n : Int)) rfl rfl (fun V hW => ?_) hH ?_
 ·clear hW hH
  go_simp
 refine td (i := 5) (d := some 23) (v := .pointer (some ⟨w1.heap.size, 0, none⟩)) rfl rfl (fun V hW => ?_) hH ?_
 ·clear hW hH
  go_simp
 refine td (i := 6) (d := some 24) (v := .int .i64 t) rfl rfl (fun V hW => ?_) hH ?_
 ·have k0 := blk_cell hW.2 0
  simp only [List.getElem?_toArray, List.getElem?_cons_zero] at k0
  clear hW hH
  go_simp
 refine td (i := 7) (d := some 25) (v := .bool (decide ((sv.n : Int) < t))) rfl rfl (fun V hW => ?_) hH ?_
 ·clear hW hH
  go_simp
 refine wpAnyH_done (by kernel_rfl) ?_ _
 go_wp2_with fail
 refine wp_region_held_drew (S := fun V => V.heap[f]? = some (.cells (frC F sv) 225 (0, 0)) /\ V.heap[w1.heap.size]? = some (.cells #[.int .i64 t, .int .i64 l, .int .i64 g] 369 (0, 0))) (by kernel_rfl) ⟨hf2, hs2⟩ (fun hH => ?_)
 refine td (i := 0) (d := some 27) (v := .pointer (some ⟨f, 0, none⟩)) rfl rfl (fun V hW => ?_) hH ?_
 ·clear hW hH
  go_simp
 refine td (i := 1) (d := some 28) (v := .pointer (some ⟨f, 0, none⟩)) rfl rfl (fun V hW => ?_) hH ?_
 ·clear hW hH
  go_simp
 refine td (i := 2) (d := some 29) (v := .pointer (some ⟨f, 14, none⟩)) rfl rfl (fun V hW => ?_) hH ?_
 ·clear hW hH
  go_simp
 refine td (i := 3) (d := some 30) (v := .slice sv.a sv.n sv.c) rfl rfl (fun V hW => ?_) hH ?_
 ·have k0 := blk_cell hW.1 14
  simp only [frC, List.getElem?_toArray, List.getElem?_cons_zero, List.getElem?_cons_succ] at k0
  clear hW hH
  go_simp
 refine td (i := 4) (d := some 31) (v := .int .i64 (sv.n : Int)) rfl rfl (fun V hW => ?_) hH ?_
 ·clear hW hH
  go_simp
 refine td (i := 5) (d := some 32) (v := .pointer (some ⟨w1.heap.size, 0, none⟩)) rfl rfl (fun V hW => ?_) hH ?_
 ·clear hW hH
  go_simp
 refine td (i := 6) (d := some 33) (v := .int .i64 t) rfl rfl (fun V hW => ?_) hH ?_
 ·have k0 := blk_cell hW.2 0
  simp only [List.getElem?_toArray, List.getElem?_cons_zero] at k0
  clear hW hH
  go_simp
 refine td (i := 7) (d := some 34) (v := .int .i64 ((sv.n : Int) - t)) rfl rfl (fun V hW => ?_) hH ?_
 ·clear hW hH
  go_simp
 refine td (i := 8) (d := some 35) (v := .pointer (some ⟨w1.heap.size, 1, none⟩)) rfl rfl (fun V hW => ?_) hH ?_
 ·clear hW hH
  go_simp
 refine td (i := 9) (d := some 36) (v := .int .i64 l) rfl rfl (fun V hW => ?_) hH ?_
 ·have k0 := blk_cell hW.2 1
  simp only [List.getElem?_toArray, List.getElem?_cons_zero, List.getElem?_cons_succ] at k0
  clear hW hH
  go_simp
 refine td (i := 10) (d := some 37) (v := .int .i64 ((sv.n : Int) - t + l)) rfl rfl (fun V hW => ?_) hH ?_
 ·clear hW hH
  go_simp
 refine td (i := 11) (d := some 38) (v := .bool (decide ((sv.n : Int) - t + l > 1024))) rfl rfl (fun V hW => ?_) hH ?_
 ·clear hW hH
  go_simp
 refine wpAnyH_done (by kernel_rfl) ?_ _
 go_wp2_with fail
 refine (hto _).mono ?_
 rintro e w4 ⟨rfl, hw4⟩
 clear hto
 have hb4 : Below W.heap.size W w4 := by rw [hw4]; exact hb2.drew.drew
 replace hf2 : w4.heap[f]? = some (.cells (frC F sv) 225 (0, 0)) := by rw [hw4]; exact hf2
 replace hs2 : w4.heap[w1.heap.size]? = some (.cells #[.int .i64 t, .int .i64 l, .int .i64 g] 369 (0, 0)) := by rw [hw4]; exact hs2
 clear hw4 hb2
 go_wp2_with fail
 refine wp_region_held_drew (S := fun V => V.heap[f]? = some (.cells (frC F sv) 225 (0, 0)) /\ V.heap[w1.heap.size]? = some (.cells #[.int .i64 t, .int .i64 l, .int .i64 g] 369 (0, 0))) (by kernel_rfl) ⟨hf2, hs2⟩ (fun hH => ?_)
 refine td (i := 0) (d := some 49) (v := .pointer (some ⟨w1.heap.size, 2, none⟩)) rfl rfl (fun V hW => ?_) hH ?_
 ·clear hW hH
  go_simp
 refine td (i := 1) (d := some 50) (v := .int .i64 g) rfl rfl (fun V hW => ?_) hH ?_
 ·have k0 := blk_cell hW.2 2
  simp only [List.getElem?_toArray, List.getElem?_cons_zero, List.getElem?_cons_succ] at k0
  clear hW hH
  go_simp
 refine td (i := 2) (d := some 51) (v := .pointer (some ⟨f, 0, none⟩)) rfl rfl (fun V hW => ?_) hH ?_
 ·clear hW hH
  go_simp
 refine td (i := 3) (d := some 52) (v := .int .u8 i) rfl rfl (fun V hW => ?_) hH ?_
 ·clear hW hH
  go_simp
 refine td (i := 6) (d := some 55) (v := .pointer (some ⟨f, 0, none⟩)) rfl rfl (fun V hW => ?_) hH ?_
 ·clear hW hH
  go_simp
 refine td (i := 7) (d := some 56) (v := .pointer (some ⟨f, 0, none⟩)) rfl rfl (fun V hW => ?_) hH ?_
 ·clear hW hH
  go_simp
 refine td (i := 8) (d := some 57) (v := .pointer (some ⟨f, 15, none⟩)) rfl rfl (fun V hW => ?_) hH ?_
 ·clear hW hH
  go_simp
 refine td (i := 9) (d := some 58) (v := .slice none 0 0) rfl rfl (fun V hW => ?_) hH ?_
 ·have k0 := blk_cell hW.1 15
  simp only [frC, List.getElem?_toArray, List.getElem?_cons_zero, List.getElem?_cons_succ] at k0
  clear hW hH
  go_simp
 refine td (i := 10) (d := some 59) (v := .int .i64 0) rfl rfl (fun V hW => ?_) hH ?_
 ·clear hW hH
  go_simp
 refine r1 (i := 4) rfl (fun K hK => ?_)
 go_simp
 refine (hex _).mono ?_
 rintro e W5 ⟨rfl, hw⟩
 subst hw
 go_wp2_with fail
 refine hK.out _ _ hH (fun hH => ?_)
 clear hK K
 refine td (i := 5) (d := some 54) (v := .int .i64 g) rfl rfl (fun V hW => ?_) hH ?_
 ·clear hW hH
  go_simp
 refine r1 (i := 11) rfl (fun K hK => ?_)
 go_simp
 refine (cost293 _).mono ?_
 rintro e W6 ⟨rfl, hw⟩
 subst hw
 go_wp2_with fail
 refine hK.out _ _ hH (fun hH => ?_)
 clear hK K
 refine td (i := 12) (d := some 61) (v := .int .i64 g) rfl rfl (fun V hW => ?_) hH ?_
 ·clear hW hH
  go_simp
 refine td (i := 13) (d := some 9) (v := .int .i64 g) rfl rfl (fun V hW => ?_) hH ?_
 ·clear hW hH
  go_simp
 refine wpAnyH_done (by kernel_rfl) ?_ _
 have c13 := blk_cell hf2 13
 have f13 := blk_fz hf2 13
 simp only [frC, List.getElem?_toArray, List.getElem?_cons_zero, List.getElem?_cons_succ] at c13
 go_wp2_with fail
 have hf5 : (w4.setCell ⟨f, 13, none⟩ (.int .i64 (F.gas - g))).drew.heap[f]? = some (.cells (frC { F with gas := F.gas - g } sv) 225 (0, 0)) := by
  have := blk_set (i := 13) (v := .int .i64 (F.gas - g)) hf2
  rw [frC_gas] at this
  exact this
 have hp5 : Pres [f] [] W (w4.setCell ⟨f, 13, none⟩ (.int .i64 (F.gas - g))).drew := (Pres.trans (.of_below hb4 _ _) (Pres.setCell w4 f 13 _)).dr
 refine (grow294 (o := 15) hf5 rfl).mono ?_
 rintro e w6 ⟨rfl, hb6⟩
 clear c13 f13
 go_wp2
 go_ret
 exact ⟨rfl, (hb6.block _ (blk_lt hf5)).trans hf5, hp5.trans (.of_below hb6 _ _)⟩
theorem pay_no {W : World} {f : Nat} {F : Frm} {sv : SV} (hf : W.heap[f]? = some (.cells (frC F sv) 225 (0, 0))) (i t l g : Int)
  (hsh : ∀ w, Calls TryQ.prog 290 #[.int .u8 i] w fun e w' => e = .returned (.tuple #[.agg #[.int .i64 t, .int .i64 l, .int .i64 g], .bool true]) /\ Below w.heap.size w w')
  (hto : ∀ w, Calls TryQ.prog 291 #[.pointer (some ⟨f, 0, none⟩), .int .u8 i] w fun e w' => e = .returned (.tuple #[.int .i64 0, .nilIface]) /\ w' = w)
  (hex : ∀ w, Calls TryQ.prog 292 #[.pointer (some ⟨f, 0, none⟩), .int .u8 i] w fun e w' => e = .returned (.int .i64 0) /\ w' = w)
  (ht : t <= sv.n) (hl0 : 0 <= l) (hl : (sv.n : Int) - t + l <= 1024) (hg0 : 0 <= g) (hg1 : g < 100000) (hpay : F.gas < g) {E : Value} (hE : W.cell? ⟨1, 0, none⟩ = some E) (h1 : 1 < W.heap.size) :
  Calls TryQ.prog 262 #[.pointer (some ⟨f, 0, none⟩), .int .u8 i] W fun e w' => e = .returned E /\ Below W.heap.size W w' := by
 have d1 : ¬ (sv.n : Int) < t := by omega
 have d2 : ¬ (1024 < (sv.n : Int) - t + l) := by omega
 have i1 : IntKind.i64.wrap ((sv.n : Int) - t) = (sv.n : Int) - t := IntWalk.i64_in _ ⟨by omega, by omega⟩
 have i2 : IntKind.i64.wrap ((sv.n : Int) - t + l) = (sv.n : Int) - t + l := IntWalk.i64_in _ ⟨by omega, by omega⟩
 have i3 : IntKind.i64.wrap g = g := IntWalk.i64_in _ ⟨by omega, by omega⟩
 clear ht hl0 hl
 go_enter TryQ.func262, Tryz.ntmps262
 go_wp2_with fail
 refine (hsh _).mono ?_
 rintro e w1 ⟨rfl, hb1⟩
 clear hsh
 have hf1 := (hb1.block _ (blk_lt hf)).trans hf
 have hf2 := blk_alloc (p := .cells #[.int .i64 t, .int .i64 l, .int .i64 g] 369) hf1
 have hs2 := blk_new w1 (.cells #[.int .i64 t, .int .i64 l, .int .i64 g] 369)
 have hb2 : Below W.heap.size W (w1.alloc (.cells #[.int .i64 t, .int .i64 l, .int .i64 g] 369)) := hb1.trans (ba.mono hb1.size)
 go_wp2_with fail
 change Code.wp _ _ _ _ (w1.alloc (.cells #[.int .i64 t, .int .i64 l, .int .i64 g] 369))
 generalize w1.alloc (.cells #[.int .i64 t, .int .i64 l, .int .i64 g] 369) = w2 at hf2 hs2 hb2 ⊢
 refine wp_region_held_drew (S := fun V => V.heap[f]? = some (.cells (frC F sv) 225 (0, 0)) /\ V.heap[w1.heap.size]? = some (.cells #[.int .i64 t, .int .i64 l, .int .i64 g] 369 (0, 0))) (by kernel_rfl) ⟨hf2, hs2⟩ (fun hH => ?_)
 refine td (i := 0) (d := some 18) (v := .pointer (some ⟨f, 0, none⟩)) rfl rfl (fun V hW => ?_) hH ?_
 ·clear hW hH
  go_simp
 refine td (i := 1) (d := some 19) (v := .pointer (some ⟨f, 0, none⟩)) rfl rfl (fun V hW => ?_) hH ?_
 ·clear hW hH
  go_simp
 refine td (i := 2) (d := some 20) (v := .pointer (some ⟨f, 14, none⟩)) rfl rfl (fun V hW => ?_) hH ?_
 ·clear hW hH
  go_simp
 refine td (i := 3) (d := some 21) (v := .slice sv.a sv.n sv.c) rfl rfl (fun V hW => ?_) hH ?_
 ·have k0 := blk_cell hW.1 14
  simp only [frC, List.getElem?_toArray, List.getElem?_cons_zero, List.getElem?_cons_succ] at k0
  clear hW hH
  go_simp
 refine td (i := 4) (d := some 22) (v := .int .i64 (sv.n : Int)) rfl rfl (fun V hW => ?_) hH ?_
 ·clear hW hH
  go_simp
 refine td (i := 5) (d := some 23) (v := .pointer (some ⟨w1.heap.size, 0, none⟩)) rfl rfl (fun V hW => ?_) hH ?_
 ·clear hW hH
  go_simp
 refine td (i := 6) (d := some 24) (v := .int .i64 t) rfl rfl (fun V hW => ?_) hH ?_
 ·have k0 := blk_cell hW.2 0
  simp only [List.getElem?_toArray, List.getElem?_cons_zero] at k0
  clear hW hH
  go_simp
 refine td (i := 7) (d := some 25) (v := .bool (decide ((sv.n : Int) < t))) rfl rfl (fun V hW => ?_) hH ?_
 ·clear hW hH
  go_simp
 refine wpAnyH_done (by kernel_rfl) ?_ _
 go_wp2_with fail
 refine wp_region_held_drew (S := fun V => V.heap[f]? = some (.cells (frC F sv) 225 (0, 0)) /\ V.heap[w1.heap.size]? = some (.cells #[.int .i64 t, .int .i64 l, .int .i64 g] 369 (0, 0))) (by kernel_rfl) ⟨hf2, hs2⟩ (fun hH => ?_)
 refine td (i := 0) (d := some 27) (v := .pointer (some ⟨f, 0, none⟩)) rfl rfl (fun V hW => ?_) hH ?_
 ·clear hW hH
  go_simp
 refine td (i := 1) (d := some 28) (v := .pointer (some ⟨f, 0, none⟩)) rfl rfl (fun V hW => ?_) hH ?_
 ·clear hW hH
  go_simp
 refine td (i := 2) (d := some 29) (v := .pointer (some ⟨f, 14, none⟩)) rfl rfl (fun V hW => ?_) hH ?_
 ·clear hW hH
  go_simp
 refine td (i := 3) (d := some 30) (v := .slice sv.a sv.n sv.c) rfl rfl (fun V hW => ?_) hH ?_
 ·have k0 := blk_cell hW.1 14
  simp only [frC, List.getElem?_toArray, List.getElem?_cons_zero, List.getElem?_cons_succ] at k0
  clear hW hH
  go_simp
 refine td (i := 4) (d := some 31) (v := .int .i64 (sv.n : Int)) rfl rfl (fun V hW => ?_) hH ?_
 ·clear hW hH
  go_simp
 refine td (i := 5) (d := some 32) (v := .pointer (some ⟨w1.heap.size, 0, none⟩)) rfl rfl (fun V hW => ?_) hH ?_
 ·clear hW hH
  go_simp
 refine td (i := 6) (d := some 33) (v := .int .i64 t) rfl rfl (fun V hW => ?_) hH ?_
 ·have k0 := blk_cell hW.2 0
  simp only [List.getElem?_toArray, List.getElem?_cons_zero] at k0
  clear hW hH
  go_simp
 refine td (i := 7) (d := some 34) (v := .int .i64 ((sv.n : Int) - t)) rfl rfl (fun V hW => ?_) hH ?_
 ·clear hW hH
  go_simp
 refine td (i := 8) (d := some 35) (v := .pointer (some ⟨w1.heap.size, 1, none⟩)) rfl rfl (fun V hW => ?_) hH ?_
 ·clear hW hH
  go_simp
 refine td (i := 9) (d := some 36) (v := .int .i64 l) rfl rfl (fun V hW => ?_) hH ?_
 ·have k0 := blk_cell hW.2 1
  simp only [List.getElem?_toArray, List.getElem?_cons_zero, List.getElem?_cons_succ] at k0
  clear hW hH
  go_simp
 refine td (i := 10) (d := some 37) (v := .int .i64 ((sv.n : Int) - t + l)) rfl rfl (fun V hW => ?_) hH ?_
 ·clear hW hH
  go_simp
 refine td (i := 11) (d := some 38) (v := .bool (decide ((sv.n : Int) - t + l > 1024))) rfl rfl (fun V hW => ?_) hH ?_
 ·clear hW hH
  go_simp
 refine wpAnyH_done (by kernel_rfl) ?_ _
 go_wp2_with fail
 refine (hto _).mono ?_
 rintro e w4 ⟨rfl, hw4⟩
 clear hto
 have hb4 : Below W.heap.size W w4 := by rw [hw4]; exact hb2.drew.drew
 replace hf2 : w4.heap[f]? = some (.cells (frC F sv) 225 (0, 0)) := by rw [hw4]; exact hf2
 replace hs2 : w4.heap[w1.heap.size]? = some (.cells #[.int .i64 t, .int .i64 l, .int .i64 g] 369 (0, 0)) := by rw [hw4]; exact hs2
 clear hw4 hb2
 go_wp2_with fail
 refine wp_region_held_drew (S := fun V => V.heap[f]? = some (.cells (frC F sv) 225 (0, 0)) /\ V.heap[w1.heap.size]? = some (.cells #[.int .i64 t, .int .i64 l, .int .i64 g] 369 (0, 0))) (by kernel_rfl) ⟨hf2, hs2⟩ (fun hH => ?_)
 refine td (i := 0) (d := some 49) (v := .pointer (some ⟨w1.heap.size, 2, none⟩)) rfl rfl (fun V hW => ?_) hH ?_
 ·clear hW hH
  go_simp
 refine td (i := 1) (d := some 50) (v := .int .i64 g) rfl rfl (fun V hW => ?_) hH ?_
 ·have k0 := blk_cell hW.2 2
  simp only [List.getElem?_toArray, List.getElem?_cons_zero, List.getElem?_cons_succ] at k0
  clear hW hH
  go_simp
 refine td (i := 2) (d := some 51) (v := .pointer (some ⟨f, 0, none⟩)) rfl rfl (fun V hW => ?_) hH ?_
 ·clear hW hH
  go_simp
 refine td (i := 3) (d := some 52) (v := .int .u8 i) rfl rfl (fun V hW => ?_) hH ?_
 ·clear hW hH
  go_simp
 refine td (i := 6) (d := some 55) (v := .pointer (some ⟨f, 0, none⟩)) rfl rfl (fun V hW => ?_) hH ?_
 ·clear hW hH
  go_simp
 refine td (i := 7) (d := some 56) (v := .pointer (some ⟨f, 0, none⟩)) rfl rfl (fun V hW => ?_) hH ?_
 ·clear hW hH
  go_simp
 refine td (i := 8) (d := some 57) (v := .pointer (some ⟨f, 15, none⟩)) rfl rfl (fun V hW => ?_) hH ?_
 ·clear hW hH
  go_simp
 refine td (i := 9) (d := some 58) (v := .slice none 0 0) rfl rfl (fun V hW => ?_) hH ?_
 ·have k0 := blk_cell hW.1 15
  simp only [frC, List.getElem?_toArray, List.getElem?_cons_zero, List.getElem?_cons_succ] at k0
  clear hW hH
  go_simp
 refine td (i := 10) (d := some 59) (v := .int .i64 0) rfl rfl (fun V hW => ?_) hH ?_
 ·clear hW hH
  go_simp
 refine r1 (i := 4) rfl (fun K hK => ?_)
 go_simp
 refine (hex _).mono ?_
 rintro e W5 ⟨rfl, hw⟩
 subst hw
 go_wp2_with fail
 refine hK.out _ _ hH (fun hH => ?_)
 clear hK K
 refine td (i := 5) (d := some 54) (v := .int .i64 g) rfl rfl (fun V hW => ?_) hH ?_
 ·clear hW hH
  go_simp
 refine r1 (i := 11) rfl (fun K hK => ?_)
 go_simp
 refine (cost293 _).mono ?_
 rintro e W6 ⟨rfl, hw⟩
 subst hw
 go_wp2_with fail
 refine hK.out _ _ hH (fun hH => ?_)
 clear hK K
 refine td (i := 12) (d := some 61) (v := .int .i64 g) rfl rfl (fun V hW => ?_) hH ?_
 ·clear hW hH
  go_simp
 refine td (i := 13) (d := some 9) (v := .int .i64 g) rfl rfl (fun V hW => ?_) hH ?_
 ·clear hW hH
  go_simp
 refine wpAnyH_done (by kernel_rfl) ?_ _
 have c13 := blk_cell hf2 13
 have f13 := blk_fz hf2 13
 simp only [frC, List.getElem?_toArray, List.getElem?_cons_zero, List.getElem?_cons_succ] at c13
 have hE4 := (hb4.cell (p := ⟨1, 0, none⟩) h1).trans hE
 go_wp2
 go_ret
 exact ⟨rfl, hb4.drew⟩
end Go.Mark
set_option maxRecDepth 100000
set_option maxHeartbeats 1000000
namespace Go.Mark
open Go.RowKit Go.Proofs
variable [BaseB]
def Rn (f : Nat) (Φ : Value -> World -> Prop) : Nat -> World -> Prop
 | 0, _ => False
 | n + 1, W => Calls TryQ.prog 224 #[.pointer (some ⟨f, 0, none⟩)] W fun e w' => (∃ t v, e = .returned (.iface t v) /\ Φ (.iface t v) w') \/ (e = .returned .nilIface /\ Rn f Φ n w')
theorem rounds_by {P : Program} {c : Code} {Q : Exit -> Act -> World -> Prop} {I : Nat -> Act -> World -> Prop} (h0 : ∀ a w, ¬ I 0 a w) (hs : ∀ n, (∀ a w, I n a w -> Code.rounds P c Q n a w) -> ∀ a w, I (n + 1) a w -> Code.rounds P c Q (n + 1) a w) : ∀ n a w, I n a w -> Code.rounds P c Q n a w
 | 0, a, w, h => absurd h (h0 a w)
 | n + 1, a, w, h => hs n (rounds_by h0 hs n) a w h
theorem run180 {f : Nat} {Φ : Value -> World -> Prop} (n : Nat) (W : World) (h : Rn f Φ n W) :
  Calls TryQ.prog 180 #[.pointer (some ⟨f, 0, none⟩)] W fun e w' => ∃ t v, e = .returned (.iface t v) /\ Φ (.iface t v) w' := by
 go_enter TryQ.func180, Tryz.ntmps180
 go_wp2_with fail
 refine wp_loop_rounds n ?_
 refine rounds_by (I := fun n a w => ∃ v3 v4 v5 v6 v7 v8 : Value, a = ⟨#[.pointer (some ⟨f, 0, none⟩), undef, .nilIface, v3, v4, v5, v6, v7, v8], []⟩ /\ Rn f Φ n w) ?_ ?_ n _ _ ⟨_, _, _, _, _, _, rfl, h⟩
 ·rintro a w ⟨_, _, _, _, _, _, _, h⟩
  exact h
 ·clear h W
  rintro n ih a w ⟨v3, v4, v5, v6, v7, v8, rfl, h⟩
  have ihs : Shut (∀ a w, (∃ v3 v4 v5 v6 v7 v8 : Value, a = ⟨#[.pointer (some ⟨f, 0, none⟩), undef, .nilIface, v3, v4, v5, v6, v7, v8], []⟩ /\ Rn f Φ n w) -> Code.rounds _ _ _ n a w) := ih
  clear ih
  rw [rounds_succ]
  go_wp2_with fail
  refine Calls.mono h ?_
  rintro e w1 (⟨t, v, rfl, hΦ⟩ | ⟨rfl, hR⟩)
  ·go_wp2
   go_ret
   exact ⟨t, v, rfl, hΦ⟩
  ·go_wp2_with fail
   exact ihs.out _ _ ⟨_, _, _, _, _, _, rfl, hR⟩
end Go.Mark
set_option maxRecDepth 100000
set_option maxHeartbeats 2000000
namespace Go.Mark
open Go.RowKit Go.Proofs
variable [BaseB]
structure Cx (W : World) (f mb : Nat) (et : TypeId) (ev : Value) : Prop where
 e1 : 1 < BaseB.b0 /\ 1 < W.heap.size
 f1 : 1 ≠ f
 c1 : W.cell? ⟨1, 0, none⟩ = some (.iface et ev)
 m1 : ∃ o, W.heap[mb]? = some o /\ Other [41] o
 fm : mb ≠ f
 cm : W.cell? ⟨mb, 2, none⟩ = some (.bool true)
theorem Cx.pres {W W' : World} {f mb : Nat} {et : TypeId} {ev : Value} (h : Cx W f mb et ev) (hp : Pres [f] [41] W W') : Cx W' f mb et ev := by
 obtain ⟨q, hq, hQ⟩ := h.m1
 have ho' := hp.floor h.e1.1 h.e1.2 (by simpa using h.f1)
 have hq' := hp.obj hq hQ (by simpa using h.fm)
 refine ⟨⟨h.e1.1, Nat.lt_of_lt_of_le h.e1.2 hp.size⟩, h.f1, ?_, ⟨q, hq', hQ⟩, h.fm, ?_⟩
 ·have := h.c1
  simp only [World.cell?] at this ⊢
  rw [ho']
  exact this
 ·have := h.cm
  simp only [World.cell?, hq] at this
  simp only [World.cell?, hq']
  exact this
theorem Cx.lt {W : World} {f mb : Nat} {et : TypeId} {ev : Value} (h : Cx W f mb et ev) : 1 < W.heap.size /\ mb < W.heap.size := by
 obtain ⟨q, hq, _⟩ := h.m1
 exact ⟨h.e1.2, blk_lt hq⟩
def Bad0 (W : World) (F : Frm) (et : TypeId) (ev : Value) (v : Value) (w' : World) : Prop :=
 ∃ fb, v = .iface 217 (.agg #[.int .i64 F.gas, .iface 299 (.pointer (some ⟨fb, 0, none⟩))]) /\ w'.heap[fb]? = some (.cells #[.int .i64 F.self, .int .i64 F.place, .iface et ev, .int .i64 F.bl, .int .i64 F.bg, .int .i64 F.bb] 303 (0, 0)) /\ W.heap.size <= fb /\ Below W.heap.size W w'
theorem st_go {W : World} {f mb : Nat} {F F' : Frm} {sv : SV} {S S' : List Nat} {et : TypeId} {ev : Value} {Φ : Value -> World -> Prop} {n : Nat} (hf : W.heap[f]? = some (.cells (frC F sv) 225 (0, 0))) (hs : Stk W sv S) (hc : Cx W f mb et ev)
  (i t l g len : Int) (p : Nat) (x : UInt8) (hpl : F.place = (p : Int)) (hp : p < 1000) (hx : F.text.data[p]? = some x) (hi : (x.toNat : Int) = i)
  (hsh : ∀ w, Calls TryQ.prog 290 #[.int .u8 i] w fun e w' => e = .returned (.tuple #[.agg #[.int .i64 t, .int .i64 l, .int .i64 g], .bool true]) /\ Below w.heap.size w w')
  (hto : ∀ w, Calls TryQ.prog 291 #[.pointer (some ⟨f, 0, none⟩), .int .u8 i] w fun e w' => e = .returned (.tuple #[.int .i64 0, .nilIface]) /\ w' = w)
  (hex : ∀ w, Calls TryQ.prog 292 #[.pointer (some ⟨f, 0, none⟩), .int .u8 i] w fun e w' => e = .returned (.int .i64 0) /\ w' = w)
  (hlen : ∀ w, Calls TryQ.prog 147 #[.int .u8 i] w fun e w' => e = .returned (.int .i64 len) /\ w' = w)
  (ht : t <= S.length) (hl0 : 0 <= l) (hl : (S.length : Int) - t + l <= 1024) (hg0 : 0 <= g) (hg1 : g < 100000) (hle0 : 0 <= len) (hle1 : len < 100) (hgs : 0 <= F.gas) (hgs' : F.gas < 100000000)
  (hdo : ∀ w : World, w.heap[f]? = some (.cells (frC { F with gas := F.gas - g, next := F.place + len } sv) 225 (0, 0)) -> Stk w sv S -> Cx w f mb et ev -> Calls TryQ.prog 263 #[.pointer (some ⟨f, 0, none⟩), .int .u8 i] w fun e w' => e = .returned .nilIface /\ ∃ sv' : SV, w'.heap[f]? = some (.cells (frC F' sv') 225 (0, 0)) /\ Stk w' sv' S' /\ Pres [f] [41] w w')
  (hbad : F.gas < g -> ∀ v w', Bad0 W F et ev v w' -> Φ v w')
  (hok : g <= F.gas -> ∀ w' sv', w'.heap[f]? = some (.cells (frC { F' with place := F'.next } sv') 225 (0, 0)) -> Stk w' sv' S' -> Cx w' f mb et ev -> Pres [f] [41] W w' -> Rn f Φ n w') :
  Rn f Φ (n + 1) W := by
 have hn := hs.n
 have hin : ∀ w : World, w.heap[f]? = some (.cells (frC F sv) 225 (0, 0)) -> Calls TryQ.prog 261 #[.pointer (some ⟨f, 0, none⟩)] w fun e w' => e = .returned (.int .u8 i) /\ Below w.heap.size w w' := fun w hw => by
  have := instr_at hw p hpl x hx
  rw [hi] at this
  exact this
 by_cases hg : g <= F.gas
 ·have hst := step_go hf i len g hin (fun w hw => pay_yes hw i t l g hsh hto hex (by rw [hn]; exact ht) hl0 (by rw [hn]; exact hl) hg0 hg1 hgs hgs' hg) hlen (by omega) (by omega) hle0 hle1 (F' := F') (S' := S')
   (fun w hw hpw => hdo w hw (hs.pres hpw (by simp) (fun k hk o ho => by
    obtain rfl : k = f := by simpa using hk
    rw [hf] at ho
    cases ho
    exact ⟨_, _, _, rfl, by decide⟩)) (hc.pres (hpw.mono (fun _ _ h => h) (fun _ h => by cases h))))
  refine Calls.mono hst ?_
  rintro e w' ⟨rfl, sv', hf', hs', hp'⟩
  exact .inr ⟨rfl, hok hg w' sv' hf' hs' (hc.pres hp') hp'⟩
 ·have hst := step_bad hf i et ev hin (fun w hw hbw => pay_no hw i t l g hsh hto hex (by rw [hn]; exact ht) hl0 (by rw [hn]; exact hl) hg0 hg1 (by omega) ((hbw.cell (p := ⟨1, 0, none⟩) hc.lt.1).trans hc.c1) (Nat.lt_of_lt_of_le hc.lt.1 hbw.size))
  refine Calls.mono hst ?_
  rintro e w' ⟨fb, rfl, h1, h2, h3⟩
  exact .inl ⟨_, _, rfl, hbad (by omega) _ _ ⟨fb, rfl, h1, h2, h3⟩⟩
end Go.Mark
