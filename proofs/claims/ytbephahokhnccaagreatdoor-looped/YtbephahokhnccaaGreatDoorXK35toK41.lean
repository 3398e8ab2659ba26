import Derived.Test.YtbephahokhnccaaGreatDoorXK28toK34
import Derived.Stop.Asserts
set_option linter.unusedSectionVars false
set_option maxRecDepth 100000
set_option maxHeartbeats 4000000
namespace Go.Mark
open Go.RowKit Go.Proofs
variable [BaseB]
attribute [local go_sem] wd
theorem refusal48 {W : World} {l m : Nat} {dm : Dm} {cr : Int} {L : List (Int × Nat × Ac)} {J : List Value} (h : LG W l m dm cr L J) {q : Int × Nat × Ac} (hq : q ∈ L) (hq0 : q.1 ≠ 0) (dst nonce : Int) (val g p : Nat) (miner : Int) (hd : dst ≠ 0) (h5 : 0 <= dst) (h6 : dst <= 4294967295) (h7 : 1 <= miner) (h8 : miner <= 4294967295) (h9 : 0 <= nonce) (h10 : nonce < 4611686018427387904) (hno : q.2.2.nonce = nonce) (hg0 : 21000 <= g) (hg1 : g <= 1000000) (hp1 : p <= 1000000) (hv : val < M) (hle : g * p + val <= q.2.2.bal) :
  Calls TryQ.prog 48 #[.pointer (some ⟨l, 0, none⟩), .agg (ordC q.1 dst nonce val g p miner)] W fun e w' => e = .returned (.int .i64 0) /\ Below W.heap.size W w' := by
 have hg : g < 100000000 := by omega
 have hp : p < 100000000 := by omega
 have hb1 : Below W.heap.size W (W.alloc (.cells (ordC q.1 dst nonce val g p miner) 43)) := ba
 have ho := blk_new W (.cells (ordC q.1 dst nonce val g p miner) 43)
 have hL := h.below hb1
 have hol := blk_lt ho
 have hal := allowed81 q.1 dst nonce val g p miner (by omega) (by omega) (by omega) (by omega) h5 h6 h7 h8 h9 (W.alloc (.cells (ordC q.1 dst nonce val g p miner) 43))
 have hi1 : ¬ (g : Int) < 21000 := by omega
 have hi2 : ¬ (4611686018427387904 : Int) <= nonce := by omega
 go_enter TryQ.func48, Tryz.ntmps48
 unfold ordC at hal ⊢
 go_wp2_with fail
 refine hal.mono ?_
 clear hal
 rintro e v1 ⟨rfl, hba⟩
 replace ho := (hba.block _ hol).trans ho
 replace hL := hL.below hba
 replace hol := blk_lt ho
 have hbW : Below W.heap.size W v1 := hb1.trans (hba.mono hb1.size)
 have c0 := blk_cell ho 0
 simp only [ordC, List.getElem?_toArray, List.getElem?_cons_zero] at c0
 have hhas := has_yes hL hq
 go_wp2_with fail
 refine hhas.mono ?_
 rintro e w1 ⟨rfl, hw1⟩
 subst hw1
 clear hhas c0
 have hb0 : Below w1.heap.size w1 w1 := Below.refl _ _
 go_wp2_with fail
 refine wp_region_held_drew (S := fun V => Below w1.heap.size w1 V) (by kernel_rfl) hb0.drew (fun hH => ?_)
 refine td (i := 0) (d := some 21) (v := .pointer (some ⟨W.heap.size, 2, none⟩)) rfl rfl (fun V hW => ?_) hH ?_
 ·clear hW hH
  go_simp
 refine td (i := 1) (d := some 22) (v := .int .i64 nonce) rfl rfl (fun V hW => ?_) hH ?_
 ·have k0 := blk_cell ((hW.block _ hol).trans ho) 2
  simp only [ordC, List.getElem?_toArray, List.getElem?_cons_zero, List.getElem?_cons_succ] at k0
  clear hW hH
  go_simp
 refine td (i := 2) (d := some 23) (v := .pointer (some ⟨l, 0, none⟩)) rfl rfl (fun V hW => ?_) hH ?_
 ·clear hW hH
  go_simp
 refine td (i := 3) (d := some 24) (v := .pointer (some ⟨W.heap.size, 0, none⟩)) rfl rfl (fun V hW => ?_) hH ?_
 ·clear hW hH
  go_simp
 refine td (i := 4) (d := some 25) (v := .int .i64 q.1) rfl rfl (fun V hW => ?_) hH ?_
 ·have k0 := blk_cell ((hW.block _ hol).trans ho) 0
  simp only [ordC, List.getElem?_toArray, List.getElem?_cons_zero] at k0
  clear hW hH
  go_simp
 refine r1 (i := 5) rfl (fun K hK => ?_)
 go_simp
 refine (nonce83 (hL.below hH) hq).mono ?_
 rintro e V5 ⟨rfl, hbn⟩
 go_wp2_with fail
 refine hK.out _ _ (hH.trans (hbn.mono hH.size)) (fun hH => ?_)
 clear hK K
 clear hbn
 refine td (i := 6) (d := some 27) (v := .bool false) rfl rfl (fun V hW => ?_) hH ?_
 ·clear hW hH
  go_simp
 refine td (i := 7) (d := some 28) (v := .bool false) rfl rfl (fun V hW => ?_) hH ?_
 ·clear hW hH
  go_simp
 refine td (i := 8) (d := some 29) (v := .pointer (some ⟨W.heap.size, 2, none⟩)) rfl rfl (fun V hW => ?_) hH ?_
 ·clear hW hH
  go_simp
 refine td (i := 9) (d := some 30) (v := .int .i64 nonce) rfl rfl (fun V hW => ?_) hH ?_
 ·have k0 := blk_cell ((hW.block _ hol).trans ho) 2
  simp only [ordC, List.getElem?_toArray, List.getElem?_cons_zero, List.getElem?_cons_succ] at k0
  clear hW hH
  go_simp
 refine td (i := 10) (d := some 31) (v := .bool false) rfl rfl (fun V hW => ?_) hH ?_
 ·clear hW hH
  go_simp
 refine td (i := 11) (d := some 32) (v := .bool false) rfl rfl (fun V hW => ?_) hH ?_
 ·clear hW hH
  go_simp
 refine td (i := 12) (d := some 20) (v := .bool false) rfl rfl (fun V hW => ?_) hH ?_
 ·clear hW hH
  go_simp
 refine wpAnyH_done (by kernel_rfl) ?_ _
 go_wp2_with fail
 refine wp_region_held_drew (S := fun V => Below w1.heap.size w1 V) (by kernel_rfl) hH.drew (fun hH => ?_)
 refine td (i := 0) (d := some 34) (v := .pointer (some ⟨W.heap.size, 7, none⟩)) rfl rfl (fun V hW => ?_) hH ?_
 ·clear hW hH
  go_simp
 refine td (i := 1) (d := some 35) (v := .int .i64 (g : Int)) rfl rfl (fun V hW => ?_) hH ?_
 ·have k0 := blk_cell ((hW.block _ hol).trans ho) 7
  simp only [ordC, List.getElem?_toArray, List.getElem?_cons_zero, List.getElem?_cons_succ] at k0
  clear hW hH
  go_simp
 refine td (i := 2) (d := some 36) (v := .agg (ordC q.1 dst nonce val g p miner)) rfl rfl (fun V hW => ?_) hH ?_
 ·unfold ordC
  have k0 := blk_cell ((hW.block _ hol).trans ho) 0
  have k1 := blk_cell ((hW.block _ hol).trans ho) 1
  have k2 := blk_cell ((hW.block _ hol).trans ho) 2
  have k3 := blk_cell ((hW.block _ hol).trans ho) 3
  have k4 := blk_cell ((hW.block _ hol).trans ho) 4
  have k5 := blk_cell ((hW.block _ hol).trans ho) 5
  have k6 := blk_cell ((hW.block _ hol).trans ho) 6
  have k7 := blk_cell ((hW.block _ hol).trans ho) 7
  have k8 := blk_cell ((hW.block _ hol).trans ho) 8
  have k9 := blk_cell ((hW.block _ hol).trans ho) 9
  have k10 := blk_cell ((hW.block _ hol).trans ho) 10
  simp only [ordC, List.getElem?_toArray, List.getElem?_cons_zero, List.getElem?_cons_succ] at k0 k1 k2 k3 k4 k5 k6 k7 k8 k9 k10
  clear hW hH
  go_simp
 refine r1 (i := 3) rfl (fun K hK => ?_)
 go_simp
 refine (costAtOnce84 q.1 dst nonce val g p miner hd _).mono ?_
 rintro e V7 ⟨rfl, hbn⟩
 go_wp2_with fail
 refine hK.out _ _ (hH.trans (hbn.mono hH.size)) (fun hH => ?_)
 clear hK K
 clear hbn
 refine td (i := 4) (d := some 38) (v := .bool false) rfl rfl (fun V hW => ?_) hH ?_
 ·clear hW hH
  go_simp
 refine td (i := 5) (d := some 33) (v := .bool false) rfl rfl (fun V hW => ?_) hH ?_
 ·clear hW hH
  go_simp
 refine wpAnyH_done (by kernel_rfl) ?_ _
 go_wp2_with fail
 refine wp_region_held_drew (S := fun V => Below w1.heap.size w1 V) (by kernel_rfl) hH.drew (fun hH => ?_)
 refine td (i := 0) (d := some 40) (v := .agg (ordC q.1 dst nonce val g p miner)) rfl rfl (fun V hW => ?_) hH ?_
 ·unfold ordC
  have k0 := blk_cell ((hW.block _ hol).trans ho) 0
  have k1 := blk_cell ((hW.block _ hol).trans ho) 1
  have k2 := blk_cell ((hW.block _ hol).trans ho) 2
  have k3 := blk_cell ((hW.block _ hol).trans ho) 3
  have k4 := blk_cell ((hW.block _ hol).trans ho) 4
  have k5 := blk_cell ((hW.block _ hol).trans ho) 5
  have k6 := blk_cell ((hW.block _ hol).trans ho) 6
  have k7 := blk_cell ((hW.block _ hol).trans ho) 7
  have k8 := blk_cell ((hW.block _ hol).trans ho) 8
  have k9 := blk_cell ((hW.block _ hol).trans ho) 9
  have k10 := blk_cell ((hW.block _ hol).trans ho) 10
  simp only [ordC, List.getElem?_toArray, List.getElem?_cons_zero, List.getElem?_cons_succ] at k0 k1 k2 k3 k4 k5 k6 k7 k8 k9 k10
  clear hW hH
  go_simp
 refine td (i := 1) (d := some 41) (v := .pointer (some ⟨l, 0, none⟩)) rfl rfl (fun V hW => ?_) hH ?_
 ·clear hW hH
  go_simp
 refine td (i := 2) (d := some 42) (v := .pointer (some ⟨W.heap.size, 0, none⟩)) rfl rfl (fun V hW => ?_) hH ?_
 ·clear hW hH
  go_simp
 refine td (i := 3) (d := some 43) (v := .int .i64 q.1) rfl rfl (fun V hW => ?_) hH ?_
 ·have k0 := blk_cell ((hW.block _ hol).trans ho) 0
  simp only [ordC, List.getElem?_toArray, List.getElem?_cons_zero] at k0
  clear hW hH
  go_simp
 refine r1 (i := 4) rfl (fun K hK => ?_)
 go_simp
 refine (balance86 (hL.below hH) hq).mono ?_
 rintro e V9 ⟨rfl, hbn⟩
 go_wp2_with fail
 refine hK.out _ _ (hH.trans (hbn.mono hH.size)) (fun hH => ?_)
 clear hK K
 clear hbn
 refine r1 (i := 5) rfl (fun K hK => ?_)
 go_simp
 refine (payable85 q.1 dst nonce val g p miner q.2.2.bal hg hp hv (hL.bal q hq) hle _).mono ?_
 rintro e V10 ⟨rfl, hbn⟩
 go_wp2_with fail
 refine hK.out _ _ (hH.trans (hbn.mono hH.size)) (fun hH => ?_)
 clear hK K
 clear hbn
 refine td (i := 6) (d := some 46) (v := .bool false) rfl rfl (fun V hW => ?_) hH ?_
 ·clear hW hH
  go_simp
 refine td (i := 7) (d := some 39) (v := .bool false) rfl rfl (fun V hW => ?_) hH ?_
 ·clear hW hH
  go_simp
 refine wpAnyH_done (by kernel_rfl) ?_ _
 go_wp2
 go_ret
 exact ⟨rfl, hbW.trans (hH.mono hbW.size)⟩
end Go.Mark
set_option maxRecDepth 100000
set_option maxHeartbeats 4000000
namespace Go.Mark
open Go.RowKit Go.Proofs
variable [BaseB]
attribute [local go_sem] wd
theorem settle54 {W : World} {l m : Nat} {dm : Dm} {cr : Int} {L : List (Int × Nat × Ac)} {J : List Value} (h : LG W l m dm cr L J) {q : Int × Nat × Ac} (hq : q ∈ L) (dst nonce : Int) (val g p left k : Nat) (hk : g = left + k) (hg : g <= 1000000) (hp1 : p <= 1000000) (hJ : J.length + 1 < 1000000) :
  Calls TryQ.prog 54 #[.pointer (some ⟨l, 0, none⟩), .agg (ordC q.1 dst nonce val g p q.1), .int .i64 (left : Int), .int .i64 0] W fun e w' => ∃ L' J', e = .returned (.int .i64 (k : Int)) /\ LG w' l m dm cr L' J' /\ Pres [l, q.2.1] [262] W w' := by
 have hp : p < 100000000 := by omega
 have hl1 : left < 100000000 := by omega
 have hlM : left * p < M := Nat.lt_of_lt_of_le (Nat.mul_lt_mul'' hl1 hp) (by decide)
 have hk1 : k < 100000000 := by omega
 have hkM : k * p < M := Nat.lt_of_lt_of_le (Nat.mul_lt_mul'' hk1 hp) (by decide)
 have hb0 : Below W.heap.size W (W.alloc (.cells (ordC q.1 dst nonce val g p q.1) 43)) := ba
 have ho := blk_new W (.cells (ordC q.1 dst nonce val g p q.1) 43)
 have hL := h.below hb0
 have hln := h.cell0.1
 have hqn := blk_lt (h.acc q hq)
 have i1 : IntKind.i64.wrap ((g : Int) - (left : Int)) = (k : Int) := by rw [show (g : Int) - (left : Int) = (k : Int) by omega]; exact IntWalk.i64_in _ ⟨by omega, by omega⟩
 have i2 : IntKind.i64.wrap (k : Int) = (k : Int) := IntWalk.i64_in _ ⟨by omega, by omega⟩
 have i3 : IntKind.i64.wrap ((g : Int) - (k : Int)) = (left : Int) := by rw [show (g : Int) - (k : Int) = (left : Int) by omega]; exact IntWalk.i64_in _ ⟨by omega, by omega⟩
 have hmn : min (0 : Int) ((k : Int) / 2) = 0 := by omega
 clear hk hg hp1
 go_enter TryQ.func54, Tryz.ntmps54
 unfold ordC
 go_wp2_with fail
 change Code.wp _ _ _ _ (W.alloc (.cells (ordC q.1 dst nonce val g p q.1) 43))
 generalize W.alloc (.cells (ordC q.1 dst nonce val g p q.1) 43) = w1 at hb0 ho hL ⊢
 refine wp_region_held_drew (S := fun V => V.heap[W.heap.size]? = some (.cells (ordC q.1 dst nonce val g p q.1) 43 (0, 0))) (by kernel_rfl) ho (fun hH => ?_)
 refine td (i := 0) (d := some 20) (v := .pointer (some ⟨l, 0, none⟩)) rfl rfl (fun V hW => ?_) hH ?_
 ·clear hW hH
  go_simp
 refine td (i := 1) (d := some 21) (v := .pointer (some ⟨W.heap.size, 0, none⟩)) rfl rfl (fun V hW => ?_) hH ?_
 ·clear hW hH
  go_simp
 refine td (i := 2) (d := some 22) (v := .int .i64 q.1) rfl rfl (fun V hW => ?_) hH ?_
 ·have k0 := blk_cell hW 0
  simp only [ordC, List.getElem?_toArray, List.getElem?_cons_zero] at k0
  clear hW hH
  go_simp
 refine td (i := 3) (d := some 23) (v := .pointer (some ⟨W.heap.size, 7, none⟩)) rfl rfl (fun V hW => ?_) hH ?_
 ·clear hW hH
  go_simp
 refine td (i := 4) (d := some 24) (v := .int .i64 (g : Int)) rfl rfl (fun V hW => ?_) hH ?_
 ·have k0 := blk_cell hW 7
  simp only [ordC, List.getElem?_toArray, List.getElem?_cons_zero, List.getElem?_cons_succ] at k0
  clear hW hH
  go_simp
 refine td (i := 5) (d := some 25) (v := .int .i64 (k : Int)) rfl rfl (fun V hW => ?_) hH ?_
 ·clear hW hH
  go_simp
 refine td (i := 6) (d := some 26) (v := .int .i64 (left : Int)) rfl rfl (fun V hW => ?_) hH ?_
 ·clear hW hH
  go_simp
 refine td (i := 7) (d := some 27) (v := .pointer (some ⟨W.heap.size, 8, none⟩)) rfl rfl (fun V hW => ?_) hH ?_
 ·clear hW hH
  go_simp
 refine td (i := 8) (d := some 28) (v := .int .i64 (p : Int)) rfl rfl (fun V hW => ?_) hH ?_
 ·have k0 := blk_cell hW 8
  simp only [ordC, List.getElem?_toArray, List.getElem?_cons_zero, List.getElem?_cons_succ] at k0
  clear hW hH
  go_simp
 refine r1 (i := 9) rfl (fun K hK => ?_)
 go_simp
 refine (coins50 left p hl1 hp _).mono ?_
 rintro e V1 ⟨rfl, hbn⟩
 go_wp2_with fail
 refine hK.out _ _ ((hbn.block _ (blk_lt hH)).trans hH) (fun hH => ?_)
 clear hK K
 have hb1 : Below w1.heap.size w1 V1 := (Below.refl _ _).drew.trans hbn
 have hL1 := hL.below hb1
 refine r1 (i := 10) rfl (fun K hK => ?_)
 go_simp
 refine (give94 hL1 hq (left * p) hlM (by omega)).mono ?_
 rintro e V2 ⟨rfl, hL2, hp2⟩
 go_wp2_with fail
 refine hK.out _ _ (hp2.obj hH (by show (43 : Nat) ∉ [262]; decide) (by simp; omega)) (fun hH => ?_)
 clear hK K
 refine wpAnyH_done (by kernel_rfl) ?_ _
 go_wp2_with fail
 refine wp_region_held_drew (S := fun V => V.heap[W.heap.size]? = some (.cells (ordC q.1 dst nonce val g p q.1) 43 (0, 0))) (by kernel_rfl) hH (fun hH => ?_)
 refine td (i := 0) (d := some 31) (v := .pointer (some ⟨l, 0, none⟩)) rfl rfl (fun V hW => ?_) hH ?_
 ·clear hW hH
  go_simp
 refine td (i := 1) (d := some 32) (v := .pointer (some ⟨W.heap.size, 10, none⟩)) rfl rfl (fun V hW => ?_) hH ?_
 ·clear hW hH
  go_simp
 refine td (i := 2) (d := some 33) (v := .int .i64 q.1) rfl rfl (fun V hW => ?_) hH ?_
 ·have k0 := blk_cell hW 10
  simp only [ordC, List.getElem?_toArray, List.getElem?_cons_zero, List.getElem?_cons_succ] at k0
  clear hW hH
  go_simp
 refine td (i := 3) (d := some 34) (v := .int .i64 (k : Int)) rfl rfl (fun V hW => ?_) hH ?_
 ·clear hW hH
  go_simp
 refine td (i := 4) (d := some 35) (v := .pointer (some ⟨W.heap.size, 8, none⟩)) rfl rfl (fun V hW => ?_) hH ?_
 ·clear hW hH
  go_simp
 refine td (i := 5) (d := some 36) (v := .int .i64 (p : Int)) rfl rfl (fun V hW => ?_) hH ?_
 ·have k0 := blk_cell hW 8
  simp only [ordC, List.getElem?_toArray, List.getElem?_cons_zero, List.getElem?_cons_succ] at k0
  clear hW hH
  go_simp
 refine r1 (i := 6) rfl (fun K hK => ?_)
 go_simp
 refine (coins50 k p hk1 hp _).mono ?_
 rintro e V3 ⟨rfl, hbn3⟩
 go_wp2_with fail
 refine hK.out _ _ ((hbn3.block _ (blk_lt hH)).trans hH) (fun hH => ?_)
 clear hK K
 have hb3 : Below V2.heap.size V2 V3 := (Below.refl _ _).drew.trans hbn3
 have hL3 := hL2.below hb3
 refine r1 (i := 7) rfl (fun K hK => ?_)
 go_simp
 refine (give94 hL3 (setA_mem hq _) (k * p) hkM (by simp; omega)).mono ?_
 rintro e V4 ⟨rfl, hL4, hp4⟩
 go_wp2_with fail
 refine hK.out _ _ (hp4.obj hH (by show (43 : Nat) ∉ [262]; decide) (by simp; omega)) (fun hH => ?_)
 clear hK K
 refine wpAnyH_done (by kernel_rfl) ?_ _
 go_wp2
 go_ret
 exact ⟨_, _, rfl, hL4, Pres.trans (.of_below (hb0.trans (hb1.mono hb0.size)) _ _) (Pres.trans hp2 (Pres.trans (.of_below hb3 _ _) hp4))⟩
end Go.Mark
set_option maxRecDepth 100000
set_option maxHeartbeats 1000000
namespace Go.Mark
open Go.RowKit Go.Proofs
variable [BaseB]
attribute [local go_sem] wd
section
variable {W : World} {l m : Nat} {dm : Dm} {cr : Int} {L : List (Int × Nat × Ac)} {J : List Value}
theorem undoBal369 (h : LG W l m dm cr L J) {q : Int × Nat × Ac} (hq : q ∈ L) (x : Nat) (hx : x < M) :
  Calls TryQ.prog 369 #[.agg #[.pointer (some ⟨q.2.1, 0, none⟩), .int .u64 (lim x 0), .int .u64 (lim x 1), .int .u64 (lim x 2), .int .u64 (lim x 3)], .pointer (some ⟨l, 0, none⟩)] W fun e w' => e = .returned (.tuple #[]) /\ LG w' l m dm cr (setA L q.2.1 { q.2.2 with bal := x }) J /\ Pres [q.2.1] [] W w' := by
 have hbx : Below W.heap.size W (W.alloc (.cells #[.pointer (some ⟨q.2.1, 0, none⟩), .int .u64 (lim x 0), .int .u64 (lim x 1), .int .u64 (lim x 2), .int .u64 (lim x 3)] 212)) := ba
 have h1 := h.below hbx
 have hq1 := h1.acc q hq
 have c0 := blk_cell hq1 0
 have c1 := blk_cell hq1 1
 have c2 := blk_cell hq1 2
 have c3 := blk_cell hq1 3
 have f0 := blk_fz hq1 0
 have f1 := blk_fz hq1 1
 have f2 := blk_fz hq1 2
 have f3 := blk_fz hq1 3
 simp only [acCells, List.getElem?_toArray, List.getElem?_cons_zero, List.getElem?_cons_succ] at c0 c1 c2 c3
 go_enter TryQ.func369, Tryz.ntmps369
 go_wp2
 simp [bodyPost, results, Tryz.results369, go_sem]
 have hp3 := pres_set4 (W.alloc (.cells #[.pointer (some ⟨q.2.1, 0, none⟩), .int .u64 (lim x 0), .int .u64 (lim x 1), .int .u64 (lim x 2), .int .u64 (lim x 3)] 212)) q.2.1 (.int .u64 (lim x 0)) (.int .u64 (lim x 1)) (.int .u64 (lim x 2)) (.int .u64 (lim x 3))
 have hb3 := blk_set4 (.int .u64 (lim x 0)) (.int .u64 (lim x 1)) (.int .u64 (lim x 2)) (.int .u64 (lim x 3)) hq1
 have hlj3 := h1.lj.pres hp3 (by decide) (fun k hk o ho => by
  obtain rfl : k = q.2.1 := by simpa using hk
  rw [hq1] at ho
  cases ho
  exact ⟨_, _, _, rfl, by decide, by decide⟩)
 have hpA : Pres [q.2.1] [] W _ := Pres.trans (.of_below hbx _ _) hp3
 exact ⟨h.set hq (a := { q.2.2 with bal := x }) hlj3 hb3 (hpA.mono (fun k _ hk => by simp at hk; simp [hk]) (fun t ht => ht)) (by simp) ⟨rfl, rfl⟩ hx, hpA⟩
end
end Go.Mark
set_option maxRecDepth 100000
set_option maxHeartbeats 4000000
namespace Go.Mark
open Go.RowKit Go.Proofs Go.Extern.Stop Go.Stop Go.Extern
section
variable (w : World)
theorem rl_unpack (t : Addr) : (ReflectliteValue.unpack (.iface 301 (.pointer (some t)))).run TryQ.prog w = .ok (.agg #[.pointer (some ⟨11, 301, none⟩), .pointer (some ⟨w.heap.size, 0, none⟩), .int .u64 150]) (w.alloc (.cells #[.pointer (some t)] 301)) := by kernel_rfl
theorem rl_unpack2 (e : Addr) : (ReflectliteValue.unpack (.iface 299 (.pointer (some e)))).run TryQ.prog w = .ok (.agg #[.pointer (some ⟨11, 299, none⟩), .pointer (some ⟨w.heap.size, 0, none⟩), .int .u64 150]) (w.alloc (.cells #[.pointer (some e)] 299)) := by kernel_rfl
theorem rl_type (a : Addr) : (ReflectliteValue.methodAny (ReflectliteValue.valueError "reflectlite.Value.Type" 0) (fun t _ _ _ => ReflectliteType.toType t) #[.agg #[.pointer (some ⟨11, 301, none⟩), .pointer (some a), .int .u64 150]]).run TryQ.prog w = .ok (.iface 355 (.agg #[.pointer (some ⟨11, 301, none⟩)])) w := by kernel_rfl
theorem rl_mKind (h : Value) : (Go.method 543 355 (.agg #[h]) "Kind").run TryQ.prog w = .ok (362, h) w := by kernel_rfl
theorem rl_mElem (h : Value) : (Go.method 543 355 (.agg #[h]) "Elem").run TryQ.prog w = .ok (383, .agg #[h]) w := by kernel_rfl
theorem rl_mImplements (h : Value) : (Go.method 543 355 (.agg #[h]) "Implements").run TryQ.prog w = .ok (384, .agg #[h]) w := by kernel_rfl
theorem rl_mAssignableTo (h : Value) : (Go.method 543 355 (.agg #[h]) "AssignableTo").run TryQ.prog w = .ok (381, .agg #[h]) w := by kernel_rfl
theorem rl_kind301  : ((ReflectliteType.abiMethod fun t => Functor.map (fun a : Nat => Value.int IntKind.u8 (a : Int)) (Rtype.kind t)) #[.pointer (some ⟨11, 301, none⟩)]).run TryQ.prog w = .ok (.int .u8 22) w := by kernel_rfl
theorem rl_kind299  : ((ReflectliteType.abiMethod fun t => Functor.map (fun a : Nat => Value.int IntKind.u8 (a : Int)) (Rtype.kind t)) #[.pointer (some ⟨11, 299, none⟩)]).run TryQ.prog w = .ok (.int .u8 22) w := by kernel_rfl
theorem rl_elem  : (ReflectliteType.method ReflectliteType.elem #[.agg #[.pointer (some ⟨11, 301, none⟩)]]).run TryQ.prog w = .ok (.iface 355 (.agg #[.pointer (some ⟨11, 299, none⟩)])) w := by kernel_rfl
theorem rl_impl  : (ReflectliteType.relation "Implements" ReflectliteType.implements_ #[.agg #[.pointer (some ⟨11, 299, none⟩)], .iface 355 (.agg #[.pointer (some ⟨11, 36, none⟩)])]).run TryQ.prog w = .ok (.bool true) w := by kernel_rfl
theorem rl_typeOf (v : Value) : (ReflectliteType.typeOf #[.iface 299 v]).run TryQ.prog w = .ok (.iface 355 (.agg #[.pointer (some ⟨11, 299, none⟩)])) w := by kernel_rfl
theorem rl_assign  : (ReflectliteType.relation "AssignableTo" ReflectliteType.assignableTo #[.agg #[.pointer (some ⟨11, 299, none⟩)], .iface 355 (.agg #[.pointer (some ⟨11, 299, none⟩)])]).run TryQ.prog w = .ok (.bool true) w := by kernel_rfl
theorem rl_parts (a : Addr) : (ReflectliteValue.parts (.agg #[.pointer (some ⟨11, 301, none⟩), .pointer (some a), .int .u64 150])).run TryQ.prog w = .ok (some (301, a, 150)) w := by kernel_rfl
theorem rl_partsA (a : Addr) : (ReflectliteValue.parts (.agg #[.pointer (some ⟨11, 299, none⟩), .pointer (some a), .int .u64 406])).run TryQ.prog w = .ok (some (299, a, 406)) w := by kernel_rfl
theorem rl_partsB (a : Addr) : (ReflectliteValue.parts (.agg #[.pointer (some ⟨11, 299, none⟩), .pointer (some a), .int .u64 150])).run TryQ.prog w = .ok (some (299, a, 150)) w := by kernel_rfl
theorem rl_elemT  : (Rtype.elem? 301).run TryQ.prog w = .ok (some 299) w := by kernel_rfl
theorem rl_mk (p : Addr) : (ReflectliteValue.mk 299 p ReflectliteValue.flagAddr).run TryQ.prog w = .ok (.agg #[.pointer (some ⟨11, 299, none⟩), .pointer (some p), .int .u64 406]) w := by kernel_rfl
theorem rl_direct  : (Rtype.directlyAssignable 299 299).run TryQ.prog w = .ok (true) w := by kernel_rfl
end
theorem rl_m1 (z : Sem Value) (f : TypeId -> Addr -> Nat -> Nat -> Sem Value) (v : Value) : ReflectliteValue.method z f #[v] = ReflectliteValue.parts v >>= fun p => p.elim z fun q => f q.1 q.2.1 q.2.2 (q.2.2 % 32) := by
 show (ReflectliteValue.parts v >>= _) = _
 congr 1
 funext p
 rcases p with _ | ⟨t, a, fl⟩ <;> rfl
theorem rl_isNil (a p : Addr) (W : World) (ha : W.cell? a = some (.pointer (some p))) :
  (ReflectliteValue.method (ReflectliteValue.valueError "reflectlite.Value.IsNil" 0) ReflectliteValue.isNil #[.agg #[.pointer (some ⟨11, 301, none⟩), .pointer (some a), .int .u64 150]]).run TryQ.prog W = .ok (.bool false) W := by
 rw [rl_m1]
 simp only [Sem.run_bind, rl_parts, Result.andThen_ok, Option.elim]
 simp [ReflectliteValue.isNil, loadVar, isAgg, underlying, Tryz.underlying301, ha, Result.andThen]
theorem rl_elemV (a p : Addr) (W : World) (ha : W.cell? a = some (.pointer (some p))) :
  (ReflectliteValue.method (ReflectliteValue.valueError "reflectlite.Value.Elem" 0) ReflectliteValue.elem #[.agg #[.pointer (some ⟨11, 301, none⟩), .pointer (some a), .int .u64 150]]).run TryQ.prog W = .ok (.agg #[.pointer (some ⟨11, 299, none⟩), .pointer (some p), .int .u64 406]) W := by
 rw [rl_m1]
 simp only [Sem.run_bind, rl_parts, Result.andThen_ok, Option.elim]
 simp [ReflectliteValue.elem, loadVar, isAgg, underlying, Tryz.underlying301, ha, Result.andThen, rl_elemT, rl_mk]
theorem rl_set (ta b e : Addr) (old : Value) (W : World) (hb : W.cell? b = some (.pointer (some e))) (ht : W.cell? ta = some old) (hf : W.frozen? ta = false) :
  (ReflectliteValue.set #[.agg #[.pointer (some ⟨11, 299, none⟩), .pointer (some ta), .int .u64 406], .agg #[.pointer (some ⟨11, 299, none⟩), .pointer (some b), .int .u64 150]]).run TryQ.prog W = .ok (.tuple #[]) (W.setCell ta (.pointer (some e))) := by
 show (ReflectliteValue.parts (.agg #[.pointer (some ⟨11, 299, none⟩), .pointer (some ta), .int .u64 406]) >>= fun p => ReflectliteValue.parts (.agg #[.pointer (some ⟨11, 299, none⟩), .pointer (some b), .int .u64 150]) >>= fun q => _).run TryQ.prog W = _
 simp only [Sem.run_bind, rl_partsA, rl_partsB, Result.andThen]
 simp [ReflectliteValue.flagAddr, loadVar, isAgg, underlying, Tryz.underlying299, hb, Result.andThen, rl_direct, storeVar, Value.cells, storeCells, Addr.add]
 rw [run_store TryQ.prog W ta _ _ (by rfl)]
 simp [ht, hf]
theorem as222 (e t : Addr) (old : Value) (w : World) (hg : w.cell? ⟨4, 0, none⟩ = some (.iface 355 (.agg #[.pointer (some ⟨11, 36, none⟩)]))) (ht0 : w.cell? t = some old) (hf0 : w.frozen? t = false) :
  Calls TryQ.prog 222 #[.iface 299 (.pointer (some e)), .iface 301 (.pointer (some t))] w fun ev w' => ev = .returned (.bool true) /\ w' = ((((w.alloc (.cells #[.pointer (some t)] 301)).alloc (.cells #[.pointer (some ⟨11, 301, none⟩), .pointer (some ⟨w.heap.size, 0, none⟩), .int .u64 150] 326)).alloc (.cells #[.pointer (some ⟨11, 301, none⟩), .pointer (some ⟨w.heap.size, 0, none⟩), .int .u64 150] 326)).alloc (.cells #[.pointer (some e)] 299)).setCell t (.pointer (some e)) := by
 have h257 := @run_callFunc_extern TryQ.prog 257 _ (fun args => ReflectliteValue.unpack (args.getD 0 (.tuple #[]))) TryQ.func257 (by kernel_rfl) (by kernel_rfl) (by kernel_rfl) (by kernel_rfl)
 have h258 := @run_callFunc_extern TryQ.prog 258 _ (ReflectliteValue.methodAny (ReflectliteValue.valueError "reflectlite.Value.Type" 0) (fun t _ _ _ => ReflectliteType.toType t)) TryQ.func258 (by kernel_rfl) (by kernel_rfl) (by kernel_rfl) (by kernel_rfl)
 have h259 := @run_callFunc_extern TryQ.prog 259 _ (ReflectliteValue.method (ReflectliteValue.valueError "reflectlite.Value.IsNil" 0) ReflectliteValue.isNil) TryQ.func259 (by kernel_rfl) (by kernel_rfl) (by kernel_rfl) (by kernel_rfl)
 have h362 := @run_callFunc_extern TryQ.prog 362 _ (ReflectliteType.abiMethod fun t => do pure (.int .u8 (<- Rtype.kind t))) TryQ.func362 (by kernel_rfl) (by kernel_rfl) (by kernel_rfl) (by kernel_rfl)
 have h383 := @run_callFunc_extern TryQ.prog 383 _ (ReflectliteType.method ReflectliteType.elem) TryQ.func383 (by kernel_rfl) (by kernel_rfl) (by kernel_rfl) (by kernel_rfl)
 have h384 := @run_callFunc_extern TryQ.prog 384 _ (ReflectliteType.relation "Implements" ReflectliteType.implements_) TryQ.func384 (by kernel_rfl) (by kernel_rfl) (by kernel_rfl) (by kernel_rfl)
 have h287 := @run_callFunc_extern TryQ.prog 287 _ (ReflectliteType.typeOf) TryQ.func287 (by kernel_rfl) (by kernel_rfl) (by kernel_rfl) (by kernel_rfl)
 have h381 := @run_callFunc_extern TryQ.prog 381 _ (ReflectliteType.relation "AssignableTo" ReflectliteType.assignableTo) TryQ.func381 (by kernel_rfl) (by kernel_rfl) (by kernel_rfl) (by kernel_rfl)
 have h288 := @run_callFunc_extern TryQ.prog 288 _ (ReflectliteValue.method (ReflectliteValue.valueError "reflectlite.Value.Elem" 0) ReflectliteValue.elem) TryQ.func288 (by kernel_rfl) (by kernel_rfl) (by kernel_rfl) (by kernel_rfl)
 have h289 := @run_callFunc_extern TryQ.prog 289 _ (ReflectliteValue.set) TryQ.func289 (by kernel_rfl) (by kernel_rfl) (by kernel_rfl) (by kernel_rfl)
 have g0 := rl_unpack
 have g1 := rl_unpack2
 have g2 := rl_type
 have g3 := rl_mKind
 have g4 := rl_mElem
 have g5 := rl_mImplements
 have g6 := rl_mAssignableTo
 have g7 := rl_kind301
 have g8 := rl_kind299
 have g9 := rl_elem
 have g10 := rl_impl
 have g11 := rl_typeOf
 have g12 := rl_assign
 have hlt : 4 < w.heap.size := by
  rcases Nat.lt_or_ge 4 w.heap.size with h | h
  ·exact h
  ·simp [World.cell?, Array.getElem?_eq_none h] at hg
 have htl : t.block < w.heap.size := by
  rcases Nat.lt_or_ge t.block w.heap.size with h | h
  ·exact h
  ·simp [World.cell?, Array.getElem?_eq_none h] at ht0
 have n8 := rl_isNil ⟨w.heap.size, 0, none⟩ t ((w.alloc (.cells #[.pointer (some t)] 301)).alloc (.cells #[.pointer (some ⟨11, 301, none⟩), .pointer (some ⟨w.heap.size, 0, none⟩), .int .u64 150] 326)) (by simp)
 have hg2 : ((w.alloc (.cells #[.pointer (some t)] 301)).alloc (.cells #[.pointer (some ⟨11, 301, none⟩), .pointer (some ⟨w.heap.size, 0, none⟩), .int .u64 150] 326)).cell? ⟨4, 0, none⟩ = some (.iface 355 (.agg #[.pointer (some ⟨11, 36, none⟩)])) := by
  rw [World.cell?_alloc_lt _ _ ⟨4, 0, none⟩ (by simp; omega), World.cell?_alloc_lt _ _ ⟨4, 0, none⟩ hlt]; exact hg
 have el := rl_elemV ⟨w.heap.size, 0, none⟩ t (((w.alloc (.cells #[.pointer (some t)] 301)).alloc (.cells #[.pointer (some ⟨11, 301, none⟩), .pointer (some ⟨w.heap.size, 0, none⟩), .int .u64 150] 326)).alloc (.cells #[.pointer (some ⟨11, 301, none⟩), .pointer (some ⟨w.heap.size, 0, none⟩), .int .u64 150] 326)) (by rw [World.cell?_alloc_lt _ _ ⟨w.heap.size, 0, none⟩ (by simp; omega)]; simp)
 have st := rl_set t ⟨w.heap.size + 1 + 1 + 1, 0, none⟩ e old ((((w.alloc (.cells #[.pointer (some t)] 301)).alloc (.cells #[.pointer (some ⟨11, 301, none⟩), .pointer (some ⟨w.heap.size, 0, none⟩), .int .u64 150] 326)).alloc (.cells #[.pointer (some ⟨11, 301, none⟩), .pointer (some ⟨w.heap.size, 0, none⟩), .int .u64 150] 326)).alloc (.cells #[.pointer (some e)] 299))
  (by rw [World.cell?_alloc_at _ _ _ _ (by simp)]; rfl)
  (by rw [World.cell?_alloc_lt _ _ t (by simp; omega), World.cell?_alloc_lt _ _ t (by simp; omega), World.cell?_alloc_lt _ _ t (by simp; omega), World.cell?_alloc_lt _ _ t htl]; exact ht0)
  (by rw [World.frozen?_alloc_old _ _ t (by simp; omega), World.frozen?_alloc_old _ _ t (by simp; omega), World.frozen?_alloc_old _ _ t (by simp; omega), World.frozen?_alloc_old _ _ t (Nat.ne_of_lt htl)]; exact hf0)
 go_enter TryQ.func222, Tryz.ntmps222
 go_wp2
 refine wp_loop_rounds 1 ?_
 rw [rounds_succ]
 go_wp2
 go_ret
 exact ⟨rfl, rfl⟩
end Go.Mark
set_option maxRecDepth 100000
set_option maxHeartbeats 4000000
namespace Go.Mark
open Go.RowKit Go.Proofs Go.Extern.Stop Go.Stop Go.Extern
variable [BaseB]
theorem is_to (v : Value) (w : World) : (ReflectliteType.typeOf #[.iface 407 v]).run TryQ.prog w = .ok (.iface 355 (.agg #[.pointer (some ⟨11, 407, none⟩)])) w := by kernel_rfl
theorem is_cmp (w : World) : ((ReflectliteType.method fun t => do Rtype.noPackHeld "Comparable" t; Functor.map (fun a : TypeInfo => Value.bool a.comparable) (typeInfo t)) #[.agg #[.pointer (some ⟨11, 407, none⟩)]]).run TryQ.prog w = .ok (.bool true) w := by kernel_rfl
theorem is_mcmp (v : Value) (w : World) : (Go.method 543 355 v "Comparable").run TryQ.prog w = .ok (382, v) w := by kernel_rfl
theorem is_comp : (TryQ.prog.info? 407).map (·.comparable) = some true := by kernel_rfl
theorem is_size : (TryQ.prog.info? 431).map (·.size) = some 1 := by kernel_rfl
theorem is_noIsE (v : Value) (xT : TypeId) (w : World) : (Instr.typeAssert (.iface 407 v) xT 423 true).run TryQ.prog w = .ok (.tuple #[.nilIface, .bool false]) w := run_typeAssert_lacksB ((q_underlying 423).trans Tryz.underlying423) (by kernel_rfl) (by kernel_rfl) v xT w
theorem is_noUnE (v : Value) (xT : TypeId) (w : World) : (Instr.typeAssert (.iface 407 v) xT 363 true).run TryQ.prog w = .ok (.tuple #[.nilIface, .bool false]) w := run_typeAssert_lacksB ((q_underlying 363).trans Tryz.underlying363) (by kernel_rfl) (by kernel_rfl) v xT w
theorem is_noUnsE (v : Value) (xT : TypeId) (w : World) : (Instr.typeAssert (.iface 407 v) xT 365 true).run TryQ.prog w = .ok (.tuple #[.nilIface, .bool false]) w := run_typeAssert_lacksB ((q_underlying 365).trans Tryz.underlying365) (by kernel_rfl) (by kernel_rfl) v xT w
theorem is_noIsF (v : Value) (xT : TypeId) (w : World) : (Instr.typeAssert (.iface 299 v) xT 423 true).run TryQ.prog w = .ok (.tuple #[.nilIface, .bool false]) w := run_typeAssert_lacksB ((q_underlying 423).trans Tryz.underlying423) (by kernel_rfl) (by kernel_rfl) v xT w
theorem is_UnF (v : Value) (xT : TypeId) (w : World) : (Instr.typeAssert (.iface 299 v) xT 363 true).run TryQ.prog w = .ok (.tuple #[.iface 299 v, .bool true]) w := run_typeAssert_hasB ((q_underlying 363).trans Tryz.underlying363) (by kernel_rfl) v xT w
theorem is_mUn (v : Value) (w : World) : (Go.method 543 299 v "Unwrap").run TryQ.prog w = .ok (375, v) w := by kernel_rfl
theorem is_fault {a b : Addr} {ca cb : Array Value} {ta tb : TypeId} {w : World} {fb : Nat} (h1 : w.cell? ⟨fb, 2, none⟩ = some (.iface 407 (.pointer (some a)))) (hne : a ≠ b) (ha : w.heap[a.block]? = some (.cells ca ta (0, 0))) (hb : w.heap[b.block]? = some (.cells cb tb (0, 0))) :
  Calls TryQ.prog 371 #[.iface 299 (.pointer (some ⟨fb, 0, none⟩)), .iface 407 (.pointer (some b))] w fun e w' => e = .returned (.bool false) /\ w' = w := by
 obtain ⟨i, hi, hcmp⟩ := Option.map_eq_some_iff.1 is_comp
 obtain ⟨j, hj, hjs⟩ := Option.map_eq_some_iff.1 is_size
 have h287 := @run_callFunc_extern TryQ.prog 287 _ ReflectliteType.typeOf TryQ.func287 (by kernel_rfl) (by kernel_rfl) (by kernel_rfl) (by kernel_rfl)
 have h382 := @run_callFunc_extern TryQ.prog 382 _ (ReflectliteType.method fun t => do Rtype.noPackHeld "Comparable" t; pure (.bool (<- typeInfo t).comparable)) TryQ.func382 (by kernel_rfl) (by kernel_rfl) (by kernel_rfl) (by kernel_rfl)
 have tT := is_to
 have cT := is_cmp
 have mR := is_mcmp
 have a0 := is_noIsE
 have a1 := is_noUnE
 have a2 := is_noUnsE
 have a3 := is_noIsF
 have a4 := is_UnF
 have a5 := is_mUn
 have heq := run_eql_iface_ptr_other (P := TryQ.prog) w ((q_underlying 36).trans Tryz.underlying36) ((q_underlying 407).trans Tryz.underlying407) hi hcmp hj (by rw [hjs]; decide) hne ha hb
 have hty := run_eql_iface_types (P := TryQ.prog) 299 407 (.pointer (some ⟨fb, 0, none⟩)) (.pointer (some b)) ((q_underlying 36).trans Tryz.underlying36) (by decide) w
 go_enter TryQ.func371, Tryz.ntmps371
 go_wp2
 refine wp_loop_rounds 2 ?_
 rw [rounds_succ]
 go_wp2
 rw [rounds_succ]
 go_wp2
 go_ret
 exact ⟨rfl, rfl⟩
theorem badLeft_fault {W : World} {fb : Nat} {a d li : Addr} {ca cd cl : Array Value} {ta td tl : TypeId} {g : Int} (h1 : W.cell? ⟨fb, 2, none⟩ = some (.iface 407 (.pointer (some a)))) (hl : fb < W.heap.size) (c0 : W.cell? ⟨0, 0, none⟩ = some (.iface 407 (.pointer (some d)))) (c3 : W.cell? ⟨3, 0, none⟩ = some (.iface 407 (.pointer (some li)))) (hl3 : 3 < W.heap.size) (ha : W.heap[a.block]? = some (.cells ca ta (0, 0))) (hd : W.heap[d.block]? = some (.cells cd td (0, 0))) (hli : W.heap[li.block]? = some (.cells cl tl (0, 0))) (hne : a ≠ d) (hne' : a ≠ li) :
  Calls TryQ.prog 370 #[.agg #[.int .i64 g, .iface 299 (.pointer (some ⟨fb, 0, none⟩))]] W fun e w' => e = .returned (.int .i64 0) /\ Below W.heap.size W w' := by
 have hb : Below W.heap.size W (W.alloc (.cells #[.int .i64 g, .iface 299 (.pointer (some ⟨fb, 0, none⟩))] 217)) := ba
 have h2 := (hb.cell (p := ⟨fb, 2, none⟩) hl).trans h1
 have d0 := (hb.cell (p := ⟨0, 0, none⟩) (by show 0 < _; omega)).trans c0
 have d3 := (hb.cell (p := ⟨3, 0, none⟩) hl3).trans c3
 have hal := (hb.block _ (blk_lt ha)).trans ha
 have i1 := is_fault (b := d) h2 hne hal ((hb.block _ (blk_lt hd)).trans hd)
 have i2 := is_fault (b := li) h2 hne' hal ((hb.block _ (blk_lt hli)).trans hli)
 clear h1 h2 c0 c3 ha hd hli hal
 go_enter TryQ.func370, Tryz.ntmps370
 go_wp2_with fail
 refine i1.mono ?_
 rintro e w1 ⟨rfl, rfl⟩
 clear i1
 go_wp2_with fail
 refine i2.mono ?_
 rintro e w1 ⟨rfl, rfl⟩
 clear i2
 go_wp2
 go_ret
 exact ⟨rfl, hb⟩
end Go.Mark
