import Derived.Test.YtbephahokhnccaaGreatDoorXK19toK20
set_option linter.unusedSectionVars false
set_option maxRecDepth 100000
set_option maxHeartbeats 4000000
namespace Go.Mark
open Go.RowKit Go.Proofs
variable [BaseB]
attribute [local go_sem] wd
theorem swap338 {W : World} {sv : SV} {x y : Nat} (hs : Stk W sv [y, x]) :
  Calls TryQ.prog 338 #[.slice sv.a sv.n sv.c, .int .i64 2] W fun e w' => e = .returned (.tuple #[]) /\ Stk w' sv [x, y] /\ Pres [] [41] W w' := by
 obtain ⟨gz, hga, hgl, c0, c1, c2, c3⟩ := hs.cells (j := 0) (x := y) rfl
 obtain ⟨gg, hga', _, c4, c5, c6, c7⟩ := hs.cells (j := 1) (x := x) rfl
 have hgg : gg = gz := by rw [hga] at hga'; cases hga'; rfl
 subst hgg
 have hn := hs.n
 obtain ⟨sa, sn, sc⟩ := sv
 simp only at hga hn ⊢
 subst hga hn
 have hty := own_type hs.own gg rfl
 obtain ⟨cur, hcur⟩ := hty
 simp only [Nat.zero_mul, Nat.one_mul, Nat.zero_add, Nat.reduceAdd] at c0 c1 c2 c3 c4 c5 c6 c7
 have f0 := blk_fz hcur 0
 have f1 := blk_fz hcur 1
 have f2 := blk_fz hcur 2
 have f3 := blk_fz hcur 3
 have f4 := blk_fz hcur 4
 have f5 := blk_fz hcur 5
 have f6 := blk_fz hcur 6
 have f7 := blk_fz hcur 7
 have hend : Stk (((((((((W.setCell ⟨gg, 4, none⟩ (.int .u64 (lim y 0))).setCell ⟨gg, 5, none⟩ (.int .u64 (lim y 1))).setCell ⟨gg, 6, none⟩ (.int .u64 (lim y 2))).setCell ⟨gg, 7, none⟩ (.int .u64 (lim y 3))).setCell ⟨gg, 0, none⟩ (.int .u64 (lim x 0))).setCell ⟨gg, 1, none⟩ (.int .u64 (lim x 1))).setCell ⟨gg, 2, none⟩ (.int .u64 (lim x 2))).setCell ⟨gg, 3, none⟩ (.int .u64 (lim x 3)))).drew ⟨some ⟨gg, 0, none⟩, 2, sc⟩ [x, y] /\ Pres [] [41] W (((((((((W.setCell ⟨gg, 4, none⟩ (.int .u64 (lim y 0))).setCell ⟨gg, 5, none⟩ (.int .u64 (lim y 1))).setCell ⟨gg, 6, none⟩ (.int .u64 (lim y 2))).setCell ⟨gg, 7, none⟩ (.int .u64 (lim y 3))).setCell ⟨gg, 0, none⟩ (.int .u64 (lim x 0))).setCell ⟨gg, 1, none⟩ (.int .u64 (lim x 1))).setCell ⟨gg, 2, none⟩ (.int .u64 (lim x 2))).setCell ⟨gg, 3, none⟩ (.int .u64 (lim x 3)))).drew := by
  have h1 := own_put (w4 y) W _ 4 hs.own
  have h2 := own_put (w4 x) _ _ 0 h1.1
  have hp1 : Pres [] [41] W (W.setCells gg 4 (w4 y)) := Pres.grown (v := .slice (some ⟨gg, 0, none⟩) 2 sc) h1.2 hs.own h1.1
  have hp2 : Pres [] [41] (W.setCells gg 4 (w4 y)) ((W.setCells gg 4 (w4 y)).setCells gg 0 (w4 x)) := Pres.grown (v := .slice (some ⟨gg, 0, none⟩) 2 sc) h2.2 h1.1 h2.1
  exact ⟨⟨own_below h2.1 (Below.refl _ _).drew, by simp, Nat.le_trans hs.low (hp1.trans hp2).dr.size⟩, (hp1.trans hp2).dr⟩
 go_enter TryQ.func338, Tryz.ntmps338
 go_wp2_with fail
 refine wp_region_held_drew (S := fun V => True) (by kernel_rfl) trivial (fun hH => ?_)
 refine td (i := 0) (d := some 13) (v := .slice (some ⟨gg, 0, none⟩) 2 sc) rfl rfl (fun V hW => ?_) hH ?_
 ·clear hW hH
  go_simp
 refine td (i := 2) (d := some 15) (v := .slice (some ⟨gg, 0, none⟩) 2 sc) rfl rfl (fun V hW => ?_) hH ?_
 ·clear hW hH
  go_simp
 refine td (i := 4) (d := some 17) (v := .slice (some ⟨gg, 0, none⟩) 2 sc) rfl rfl (fun V hW => ?_) hH ?_
 ·clear hW hH
  go_simp
 refine td (i := 8) (d := some 21) (v := .slice (some ⟨gg, 0, none⟩) 2 sc) rfl rfl (fun V hW => ?_) hH ?_
 ·clear hW hH
  go_simp
 refine td (i := 1) (d := some 14) (v := .int .i64 1) rfl rfl (fun V hW => ?_) hH ?_
 ·clear hW hH
  go_simp
 refine td (i := 3) (d := some 16) (v := .int .i64 0) rfl rfl (fun V hW => ?_) hH ?_
 ·clear hW hH
  go_simp
 refine td (i := 5) (d := some 18) (v := .int .i64 0) rfl rfl (fun V hW => ?_) hH ?_
 ·clear hW hH
  go_simp
 refine td (i := 9) (d := some 22) (v := .int .i64 1) rfl rfl (fun V hW => ?_) hH ?_
 ·clear hW hH
  go_simp
 refine td (i := 6) (d := some 19) (v := .pointer (some ⟨gg, 0, none⟩)) rfl rfl (fun V hW => ?_) hH ?_
 ·clear hW hH
  go_simp
 refine td (i := 10) (d := some 23) (v := .pointer (some ⟨gg, 4, none⟩)) rfl rfl (fun V hW => ?_) hH ?_
 ·clear hW hH
  go_simp
 refine wpAnyH_ready (rs := [7, 11]) (by kernel_rfl) (by simp) ?_
 refine AllReadyH.cons rfl (fun K hK => ?_) (AllReadyH.cons rfl (fun K hK => ?_) AllReadyH.nil)
 ·skip
  go_simp
  refine hK.out _ _ trivial (fun hH => ?_)
  clear hK K
  refine r1 (i := 11) rfl (fun K hK => ?_)
  go_simp
  refine hK.out _ _ trivial (fun hH => ?_)
  clear hK K
  refine td (i := 12) (d := some 25) (v := .pointer (some ⟨gg, 4, none⟩)) rfl rfl (fun V hW => ?_) hH ?_
  ·clear hW hH
   go_simp
  refine r1 (i := 13) rfl (fun K hK => ?_)
  go_simp
  refine hK.out _ _ trivial (fun hH => ?_)
  clear hK K
  refine td (i := 14) (d := some 26) (v := .pointer (some ⟨gg, 0, none⟩)) rfl rfl (fun V hW => ?_) hH ?_
  ·clear hW hH
   go_simp
  refine r1 (i := 15) rfl (fun K hK => ?_)
  go_simp
  refine hK.out _ _ trivial (fun hH => ?_)
  clear hK K
  refine wpAnyH_done (by kernel_rfl) ?_ _
  show bodyPost TryQ.prog Tryz.f338 _ Exit.normal _ _
  simp [bodyPost, results, Tryz.results338, go_sem]
  exact hend
 ·skip
  go_simp
  refine hK.out _ _ trivial (fun hH => ?_)
  clear hK K
  refine r1 (i := 7) rfl (fun K hK => ?_)
  go_simp
  refine hK.out _ _ trivial (fun hH => ?_)
  clear hK K
  refine td (i := 12) (d := some 25) (v := .pointer (some ⟨gg, 4, none⟩)) rfl rfl (fun V hW => ?_) hH ?_
  ·clear hW hH
   go_simp
  refine r1 (i := 13) rfl (fun K hK => ?_)
  go_simp
  refine hK.out _ _ trivial (fun hH => ?_)
  clear hK K
  refine td (i := 14) (d := some 26) (v := .pointer (some ⟨gg, 0, none⟩)) rfl rfl (fun V hW => ?_) hH ?_
  ·clear hW hH
   go_simp
  refine r1 (i := 15) rfl (fun K hK => ?_)
  go_simp
  refine hK.out _ _ trivial (fun hH => ?_)
  clear hK K
  refine wpAnyH_done (by kernel_rfl) ?_ _
  show bodyPost TryQ.prog Tryz.f338 _ Exit.normal _ _
  simp [bodyPost, results, Tryz.results338, go_sem]
  exact hend
end Go.Mark
set_option maxRecDepth 100000
set_option maxHeartbeats 8000000
namespace Go.Mark
open Go.RowKit Go.Proofs
variable [BaseB]
attribute [local go_sem] wd
theorem layOn_swap {W : World} {f : Nat} {F : Frm} {sv : SV} {x y : Nat} (hf : W.heap[f]? = some (.cells (frC F sv) 225 (0, 0))) (hs : Stk W sv [y, x]) :
  Calls TryQ.prog 307 #[.pointer (some ⟨f, 0, none⟩), .int .u8 144] W fun e w' => ∃ sv' : SV, e = .returned (.tuple #[]) /\ w'.heap[f]? = some (.cells (frC F sv') 225 (0, 0)) /\ Stk w' sv' [x, y] /\ Pres [f] [41] W w' := by
 have c14 := blk_cell hf 14
 rw [frC_at14] at c14
 have hsw := swap338 hs
 go_enter TryQ.func307, Tryz.ntmps307
 go_wp2_with fail
 refine hsw.mono ?_
 rintro e w1 ⟨rfl, hs1, hp1⟩
 go_wp2
 simp [bodyPost, results, Tryz.results307, go_sem]
 exact ⟨sv, hp1.obj hf (by show (225 : Nat) ∉ [41]; decide) (by simp), hs1, hp1.mono (fun _ _ h => by cases h) (fun _ h => h)⟩
theorem do_stop {W : World} {f : Nat} {F : Frm} {sv : SV} (hf : W.heap[f]? = some (.cells (frC F sv) 225 (0, 0))) :
  Calls TryQ.prog 263 #[.pointer (some ⟨f, 0, none⟩), .int .u8 0] W fun e w' => e = .returned (.iface 174 (.agg #[.int .i64 F.gas, .string ⟨#[]⟩])) /\ Below W.heap.size W w' := by
 have hw := well295 hf
 go_enter TryQ.func263, Tryz.ntmps263
 go_wp2_with fail
 refine hw.mono ?_
 rintro e w1 ⟨rfl, hb⟩
 go_wp2
 go_ret
 exact ⟨rfl, hb⟩
theorem do_mark (f : Nat) (W : World) :
  Calls TryQ.prog 263 #[.pointer (some ⟨f, 0, none⟩), .int .u8 48] W fun e w' => e = .returned .nilIface /\ w' = W := by
 go_enter TryQ.func263, Tryz.ntmps263
 go_wp2
 go_ret
 exact ⟨rfl, rfl⟩
theorem do_push {W : World} {f : Nat} {R : World -> Prop} (h : Calls TryQ.prog 307 #[.pointer (some ⟨f, 0, none⟩), .int .u8 96] W fun e w' => e = .returned (.tuple #[]) /\ R w') :
  Calls TryQ.prog 263 #[.pointer (some ⟨f, 0, none⟩), .int .u8 96] W fun e w' => e = .returned .nilIface /\ R w' := by
 go_enter TryQ.func263, Tryz.ntmps263
 go_wp2_with fail
 refine h.mono ?_
 rintro e w1 ⟨rfl, hR⟩
 go_wp2
 go_ret
 exact ⟨rfl, hR⟩
theorem do_sub {W : World} {f : Nat} {R : World -> Prop} (h : Calls TryQ.prog 307 #[.pointer (some ⟨f, 0, none⟩), .int .u8 2] W fun e w' => e = .returned (.tuple #[]) /\ R w') :
  Calls TryQ.prog 263 #[.pointer (some ⟨f, 0, none⟩), .int .u8 2] W fun e w' => e = .returned .nilIface /\ R w' := by
 go_enter TryQ.func263, Tryz.ntmps263
 go_wp2_with fail
 refine h.mono ?_
 rintro e w1 ⟨rfl, hR⟩
 go_wp2
 go_ret
 exact ⟨rfl, hR⟩
theorem do_dup {W : World} {f : Nat} {R : World -> Prop} (h : Calls TryQ.prog 307 #[.pointer (some ⟨f, 0, none⟩), .int .u8 128] W fun e w' => e = .returned (.tuple #[]) /\ R w') :
  Calls TryQ.prog 263 #[.pointer (some ⟨f, 0, none⟩), .int .u8 128] W fun e w' => e = .returned .nilIface /\ R w' := by
 go_enter TryQ.func263, Tryz.ntmps263
 go_wp2_with fail
 refine h.mono ?_
 rintro e w1 ⟨rfl, hR⟩
 go_wp2
 go_ret
 exact ⟨rfl, hR⟩
theorem do_swap {W : World} {f : Nat} {R : World -> Prop} (h : Calls TryQ.prog 307 #[.pointer (some ⟨f, 0, none⟩), .int .u8 144] W fun e w' => e = .returned (.tuple #[]) /\ R w') :
  Calls TryQ.prog 263 #[.pointer (some ⟨f, 0, none⟩), .int .u8 144] W fun e w' => e = .returned .nilIface /\ R w' := by
 go_enter TryQ.func263, Tryz.ntmps263
 go_wp2_with fail
 refine h.mono ?_
 rintro e w1 ⟨rfl, hR⟩
 go_wp2
 go_ret
 exact ⟨rfl, hR⟩
end Go.Mark
set_option maxRecDepth 100000
set_option maxHeartbeats 4000000
namespace Go.Mark
open Go.RowKit Go.Proofs
variable [BaseB]
attribute [local go_sem] wd
theorem lim_small (n : Nat) (h : n < 18446744073709551616) : lim n 0 = (n : Int) /\ lim n 1 = 0 /\ lim n 2 = 0 /\ lim n 3 = 0 := by
 unfold lim
 refine ⟨?_, ?_, ?_, ?_⟩ <;> simp <;> omega
theorem wd_small (n : Nat) (h : n < 18446744073709551616) : wd n = .agg #[.int .u64 (n : Int), .int .u64 0, .int .u64 0, .int .u64 0] := by
 obtain ⟨h0, h1, h2, h3⟩ := lim_small n h
 unfold wd
 rw [h0, h1, h2, h3]
theorem small_M (n : Nat) (h : n < 18446744073709551616) : n < M := Nat.lt_of_lt_of_le h (by decide)
theorem index326 {W : World} (v n : Nat) (hn : n < 1000000) (hv : v < n) :
  Calls TryQ.prog 326 #[.agg #[.int .u64 (v : Int), .int .u64 0, .int .u64 0, .int .u64 0], .int .i64 (n : Int)] W fun e w' => e = .returned (.tuple #[.int .i64 (v : Int), .bool true]) /\ Below W.heap.size W w' := by
 have hl := less v n (small_M v (by omega)) (small_M n (by omega)) (W.alloc (.cells #[.int .u64 (v : Int), .int .u64 0, .int .u64 0, .int .u64 0] 41))
 rw [wd_small v (by omega), wd_small n (by omega), decide_eq_true hv] at hl
 have hw : IntKind.u64.wrap (n : Int) = (n : Int) := IntWalk.u64_in _ (by omega)
 have hw2 : IntKind.i64.wrap (v : Int) = (v : Int) := IntWalk.i64_in _ ⟨by omega, by omega⟩
 have hb1 : Below W.heap.size W (W.alloc (.cells #[.int .u64 (v : Int), .int .u64 0, .int .u64 0, .int .u64 0] 41)) := ba
 have hn1 := blk_new W (.cells #[.int .u64 (v : Int), .int .u64 0, .int .u64 0, .int .u64 0] 41)
 clear hn hv
 go_enter TryQ.func326, Tryz.ntmps326
 go_wp2_with fail
 refine hl.mono ?_
 rintro e w2 ⟨rfl, hb2⟩
 have hn2 := (hb2.block _ (blk_lt hn1)).trans hn1
 have c0 := blk_cell hn2 0
 simp only [List.getElem?_toArray, List.getElem?_cons_zero] at c0
 go_wp2
 simp [bodyPost, results, Tryz.results326, go_sem]
 exact hb1.trans (hb2.mono hb1.size)
theorem jump298 {W : World} {f : Nat} {F : Frm} {sv : SV} (hf : W.heap[f]? = some (.cells (frC F sv) 225 (0, 0))) (v mb mn mcap : Nat) (hmk : F.mark = ⟨some ⟨mb, 0, none⟩, mn, mcap⟩) (hmn : mn < 1000000) (hv : v < mn) (hmb : mb < W.heap.size) (hm : W.cell? ⟨mb, v, none⟩ = some (.bool true)) :
  Calls TryQ.prog 298 #[.pointer (some ⟨f, 0, none⟩), wd v] W fun e w' => e = .returned .nilIface /\ w'.heap[f]? = some (.cells (frC { F with next := (v : Int) } sv) 225 (0, 0)) /\ Pres [f] [] W w' := by
 rw [wd_small v (by omega)]
 have hb1 : Below W.heap.size W (W.alloc (.cells #[.int .u64 (v : Int), .int .u64 0, .int .u64 0, .int .u64 0] 41)) := ba
 have hn1 := blk_new W (.cells #[.int .u64 (v : Int), .int .u64 0, .int .u64 0, .int .u64 0] 41)
 have hf1 := blk_alloc (p := .cells #[.int .u64 (v : Int), .int .u64 0, .int .u64 0, .int .u64 0] 41) hf
 go_enter TryQ.func298, Tryz.ntmps298
 go_wp2_with fail
 change Code.wp _ _ _ _ (W.alloc (.cells #[.int .u64 (v : Int), .int .u64 0, .int .u64 0, .int .u64 0] 41))
 generalize W.alloc (.cells #[.int .u64 (v : Int), .int .u64 0, .int .u64 0, .int .u64 0] 41) = W1 at hb1 hn1 hf1 ⊢
 refine wp_region_held_drew (S := fun V => V.heap[f]? = some (.cells (frC F sv) 225 (0, 0)) /\ V.heap[W.heap.size]? = some (.cells #[.int .u64 (v : Int), .int .u64 0, .int .u64 0, .int .u64 0] 41 (0, 0))) (by kernel_rfl) ⟨hf1, hn1⟩ (fun hH => ?_)
 refine td (i := 0) (d := some 8) (v := .agg #[.int .u64 (v : Int), .int .u64 0, .int .u64 0, .int .u64 0]) rfl rfl (fun V hW => ?_) hH ?_
 ·have k0 := blk_cell (hW.2) 0
  have k1 := blk_cell (hW.2) 1
  have k2 := blk_cell (hW.2) 2
  have k3 := blk_cell (hW.2) 3
  simp only [List.getElem?_toArray, List.getElem?_cons_zero, List.getElem?_cons_succ] at k0 k1 k2 k3
  clear hW hH
  go_simp
 refine td (i := 1) (d := some 9) (v := .pointer (some ⟨f, 0, none⟩)) rfl rfl (fun V hW => ?_) hH ?_
 ·clear hW hH
  go_simp
 refine td (i := 2) (d := some 10) (v := .pointer (some ⟨f, 0, none⟩)) rfl rfl (fun V hW => ?_) hH ?_
 ·clear hW hH
  go_simp
 refine td (i := 3) (d := some 11) (v := .pointer (some ⟨f, 5, none⟩)) rfl rfl (fun V hW => ?_) hH ?_
 ·clear hW hH
  go_simp
 refine td (i := 4) (d := some 12) (v := .slice (some ⟨mb, 0, none⟩) mn mcap) rfl rfl (fun V hW => ?_) hH ?_
 ·have k0 := blk_cell hW.1 5
  simp only [frC, List.getElem?_toArray, List.getElem?_cons_zero, List.getElem?_cons_succ] at k0
  rw [hmk] at k0
  clear hW hH
  go_simp
 refine td (i := 5) (d := some 13) (v := .int .i64 (mn : Int)) rfl rfl (fun V hW => ?_) hH ?_
 ·clear hW hH
  go_simp
 refine r1 (i := 6) rfl (fun K hK => ?_)
 go_simp
 refine (index326 v mn hmn hv).mono ?_
 rintro e W2 ⟨rfl, hb2⟩
 go_wp2_with fail
 refine hK.out _ _ ⟨(hb2.block _ (blk_lt hH.1)).trans hH.1, (hb2.block _ (blk_lt hH.2)).trans hH.2⟩ (fun hH => ?_)
 clear hK K
 refine td (i := 7) (d := some 7) (v := .tuple #[.int .i64 (v : Int), .bool true]) rfl rfl (fun V hW => ?_) hH ?_
 ·clear hW hH
  go_simp
 refine td (i := 8) (d := some 15) (v := .int .i64 (v : Int)) rfl rfl (fun V hW => ?_) hH ?_
 ·clear hW hH
  go_simp
 refine td (i := 9) (d := some 16) (v := .bool true) rfl rfl (fun V hW => ?_) hH ?_
 ·clear hW hH
  go_simp
 refine td (i := 10) (d := some 5) (v := .int .i64 (v : Int)) rfl rfl (fun V hW => ?_) hH ?_
 ·clear hW hH
  go_simp
 refine td (i := 11) (d := some 6) (v := .bool true) rfl rfl (fun V hW => ?_) hH ?_
 ·clear hW hH
  go_simp
 refine wpAnyH_done (by kernel_rfl) ?_ _
 have hbA : Below W.heap.size W W2 := hb1.trans (((Below.refl _ _).drew.trans hb2).mono hb1.size)
 have hf2 := hH.1
 have c5 := blk_cell hf2 5
 have c17 := blk_cell hf2 17
 simp only [frC, List.getElem?_toArray, List.getElem?_cons_zero, List.getElem?_cons_succ] at c5 c17
 rw [hmk] at c5
 simp only at c5
 have f17 := blk_fz hf2 17
 have m2 := (hbA.cell (p := ⟨mb, v, none⟩) hmb).trans hm
 have hv1 : (v : Int) < (mn : Int) := by omega
 go_wp2
 go_ret
 exact ⟨rfl, blk_set hf2, (Pres.of_below hbA [f] []).trans (Pres.setCell W2 f 17 _)⟩
end Go.Mark
