import Derived.Test.YtbephahokhnccaaGreatDoorXK50toK53
import Derived.Shelf.SlSortCmp.WholeK
set_option linter.unusedSectionVars false
set_option maxRecDepth 100000
set_option maxHeartbeats 2000000
namespace Go.Mark
open Go.RowKit Go.Proofs
variable [BaseB]
attribute [local go_sem] wd
theorem setA_last {L : List (Int × Nat × Ac)} {k : Int} {b : Nat} {a a' : Ac} (h : ∀ q ∈ L, q.2.1 ≠ b) : setA (L ++ [(k, b, a)]) b a' = L ++ [(k, b, a')] := by
 unfold setA
 rw [List.map_append]
 congr 1
 ·conv => rhs; rw [<- List.map_id L]
  refine List.map_congr_left fun q hq => ?_
  rw [if_neg (h q hq)]
  rfl
 ·simp
section
variable {W : World} {l m : Nat} {dm : Dm} {cr : Int} {L : List (Int × Nat × Ac)} {J : List Value}
theorem give94n (h : LG W l m dm cr L J) (k : Int) (hk : k ∉ L.map (·.1)) (x : Nat) (hx : x < M) (hJ : J.length + 1 < 1000000) :
  Calls TryQ.prog 94 #[.pointer (some ⟨l, 0, none⟩), .int .i64 k, wd x] W fun e w' => e = .returned (.tuple #[]) /\ (∃ pa ms, W.heap.size <= pa /\ LG w' l m dm cr (L ++ [(k, pa, ⟨x, 0, ⟨#[]⟩, ⟨none, 0, 0⟩, ms, []⟩)]) (J ++ [jBe k] ++ [jBal pa 0])) /\ Pres [l, m] [262] W w' := by
 have hbx : Below W.heap.size W (W.alloc (.cells #[.int .u64 (lim x 0), .int .u64 (lim x 1), .int .u64 (lim x 2), .int .u64 (lim x 3)] 41)) := ba
 have hL0 := h.below hbx
 have hn0 := blk_new W (.cells #[.int .u64 (lim x 0), .int .u64 (lim x 1), .int .u64 (lim x 2), .int .u64 (lim x 3)] 41)
 have hto := touch_new hL0 k hk (by omega)
 have hmn := h.map.lt
 have hln := h.cell0.1
 go_enter TryQ.func94, Tryz.ntmps94
 go_wp2_with fail
 refine hto.mono ?_
 rintro e w1 ⟨rfl, hL1, hpt⟩
 clear hto
 have hn : w1.heap[W.heap.size]? = _ := hpt.obj hn0 (by show (41 : Nat) ∉ [262]; decide) (by simp; omega)
 have hpn : Pres [l, m] [262] W w1 := (Pres.of_below hbx _ _).trans hpt
 have hbs : (W.alloc (.cells #[.int .u64 (lim x 0), .int .u64 (lim x 1), .int .u64 (lim x 2), .int .u64 (lim x 3)] 41)).heap.size = W.heap.size + 1 := by simp
 simp only [hbs] at hL1 ⊢
 obtain ⟨q, hqe⟩ : ∃ q : Int × Nat × Ac, q = (k, W.heap.size + 1 + 1, ⟨0, 0, ⟨#[]⟩, ⟨none, 0, 0⟩, W.heap.size + 1, []⟩) := ⟨_, rfl⟩
 have hq : q ∈ L ++ [(k, W.heap.size + 1 + 1, ⟨0, 0, ⟨#[]⟩, ⟨none, 0, 0⟩, W.heap.size + 1, []⟩)] := by rw [hqe]; simp
 have hq21 : q.2.1 = W.heap.size + 1 + 1 := by rw [hqe]
 rw [<- hq21]
 have hqb : q.2.2.bal < M := by rw [hqe]; show 0 < M; decide
 have hv : (q.2.2.bal + x) % M < M := Nat.mod_lt _ (by decide)
 have hqes : Shut (q = (k, W.heap.size + 1 + 1, ⟨0, 0, ⟨#[]⟩, ⟨none, 0, 0⟩, W.heap.size + 1, []⟩)) := hqe
 have hqle : W.heap.size + 1 < q.2.1 := by omega
 clear hqe hq21
 have hq1 := hL1.acc q hq
 have hql := blk_lt hq1
 have c0 := blk_cell hq1 0
 have c1 := blk_cell hq1 1
 have c2 := blk_cell hq1 2
 have c3 := blk_cell hq1 3
 have hl1 := hL1.cell0.1
 simp only [acCells, List.getElem?_toArray, List.getElem?_cons_zero, List.getElem?_cons_succ] at c0 c1 c2 c3
 go_wp2_with fail
 refine wp_region_held_drew (S := fun V => V.heap[W.heap.size]? = some (.cells #[.int .u64 (lim x 0), .int .u64 (lim x 1), .int .u64 (lim x 2), .int .u64 (lim x 3)] 41 (0, 0))) (by kernel_rfl) hn (fun hH => ?_)
 refine td (i := 0) (d := some 10) (v := .pointer (some ⟨l, 0, none⟩)) rfl rfl (fun V hW => ?_) hH ?_
 ·clear hW hH
  go_simp
 refine td (i := 1) (d := some 11) (v := .pointer (some ⟨q.2.1, 0, none⟩)) rfl rfl (fun V hW => ?_) hH ?_
 ·clear hW hH
  go_simp
 refine td (i := 2) (d := some 12) (v := .pointer (some ⟨q.2.1, 0, none⟩)) rfl rfl (fun V hW => ?_) hH ?_
 ·clear hW hH
  go_simp
 refine td (i := 3) (d := some 13) (v := .pointer (some ⟨q.2.1, 0, none⟩)) rfl rfl (fun V hW => ?_) hH ?_
 ·clear hW hH
  go_simp
 refine td (i := 4) (d := some 14) (v := .pointer (some ⟨q.2.1, 0, none⟩)) rfl rfl (fun V hW => ?_) hH ?_
 ·clear hW hH
  go_simp
 refine td (i := 6) (d := some 16) (v := wd x) rfl rfl (fun V hW => ?_) hH ?_
 ·have k0 := blk_cell (hW) 0
  have k1 := blk_cell (hW) 1
  have k2 := blk_cell (hW) 2
  have k3 := blk_cell (hW) 3
  simp only [List.getElem?_toArray, List.getElem?_cons_zero, List.getElem?_cons_succ] at k0 k1 k2 k3
  clear hW hH
  go_simp
 refine r1 (i := 5) rfl (fun K hK => ?_)
 go_simp
 refine hK.out _ _ hH (fun hH => ?_)
 clear hK K
 clear c0 c1 c2 c3
 refine r1 (i := 7) rfl (fun K hK => ?_)
 go_simp
 refine (add q.2.2.bal x hqb hx _).mono ?_
 rintro e W1 ⟨rfl, hbn⟩
 go_wp2_with fail
 refine hK.out _ _ ((hbn.block _ (blk_lt hH)).trans hH) (fun hH => ?_)
 clear hK K
 have hb1 : Below w1.heap.size w1 W1 := (Below.refl _ _).drew.trans hbn
 have hLW := hL1.below hb1
 refine r1 (i := 8) rfl (fun K hK => ?_)
 go_simp
 refine (setBalance hLW hq ((q.2.2.bal + x) % M) hv (by simp; omega)).mono ?_
 rintro e W2 ⟨rfl, hL2, hp2⟩
 go_wp2_with fail
 refine hK.out _ _ (hp2.obj hH (by show (41 : Nat) ∉ [262]; decide) (by simp; omega)) (fun hH => ?_)
 clear hK K
 refine wpAnyH_done (by kernel_rfl) ?_ _
 show bodyPost TryQ.prog Tryz.f94 _ Exit.normal _ _
 simp [bodyPost, results, Tryz.results94, go_sem]
 have hqe := hqes.out
 have hqL : ∀ z ∈ L, z.2.1 ≠ q.2.1 := fun z hz e => by
  have := blk_lt (h.acc z hz)
  omega
 have hbq : q.2.2.bal = 0 := by rw [hqe]
 have hxm : (q.2.2.bal + x) % M = x := by rw [hbq, Nat.zero_add]; exact Nat.mod_eq_of_lt hx
 rw [hxm, hbq] at hL2
 rw [hqe] at hL2 hqL
 rw [setA_last hqL] at hL2
 refine ⟨⟨W.heap.size + 1 + 1, by omega, W.heap.size + 1, by simpa using hL2⟩, (hpn.trans (.of_below hb1 _ _)).thenx hp2 (fun k hk => ?_)⟩
 simp only [List.mem_cons, List.not_mem_nil, or_false] at hk
 rcases hk with rfl | rfl
 ·exact .inl (by simp)
 ·exact .inr (by omega)
end
end Go.Mark
set_option maxRecDepth 100000
set_option maxHeartbeats 4000000
namespace Go.Mark
open Go.RowKit Go.Proofs
variable [BaseB]
attribute [local go_sem] wd
theorem settle54n {W : World} {l m : Nat} {dm : Dm} {cr : Int} {L : List (Int × Nat × Ac)} {J : List Value} (h : LG W l m dm cr L J) {q : Int × Nat × Ac} (hq : q ∈ L) (mi : Int) (hmi : mi ∉ L.map (·.1)) (dst nonce : Int) (val g p left k : Nat) (hk : g = left + k) (hg : g <= 1000000) (hp1 : p <= 1000000) (hJ : J.length + 2 < 1000000) :
  Calls TryQ.prog 54 #[.pointer (some ⟨l, 0, none⟩), .agg (ordC q.1 dst nonce val g p mi), .int .i64 (left : Int), .int .i64 0] W fun e w' => e = .returned (.int .i64 (k : Int)) /\ (∃ pa ms J', W.heap.size <= pa /\ LG w' l m dm cr (setA L q.2.1 { q.2.2 with bal := (q.2.2.bal + left * p) % M } ++ [(mi, pa, ⟨k * p, 0, ⟨#[]⟩, ⟨none, 0, 0⟩, ms, []⟩)]) J') /\ Pres [l, q.2.1, m] [262] W w' := by
 have hp : p < 100000000 := by omega
 have hl1 : left < 100000000 := by omega
 have hlM : left * p < M := Nat.lt_of_lt_of_le (Nat.mul_lt_mul'' hl1 hp) (by decide)
 have hk1 : k < 100000000 := by omega
 have hkM : k * p < M := Nat.lt_of_lt_of_le (Nat.mul_lt_mul'' hk1 hp) (by decide)
 have hb0 : Below W.heap.size W (W.alloc (.cells (ordC q.1 dst nonce val g p mi) 43)) := ba
 have ho := blk_new W (.cells (ordC q.1 dst nonce val g p mi) 43)
 have hL := h.below hb0
 have hln := h.cell0.1
 have hqn := blk_lt (h.acc q hq)
 have i1 : IntKind.i64.wrap ((g : Int) - (left : Int)) = (k : Int) := by rw [show (g : Int) - (left : Int) = (k : Int) by omega]; exact IntWalk.i64_in _ ⟨by omega, by omega⟩
 have i2 : IntKind.i64.wrap (k : Int) = (k : Int) := IntWalk.i64_in _ ⟨by omega, by omega⟩
 have i3 : IntKind.i64.wrap ((g : Int) - (k : Int)) = (left : Int) := by rw [show (g : Int) - (k : Int) = (left : Int) by omega]; exact IntWalk.i64_in _ ⟨by omega, by omega⟩
 have hmn : min (0 : Int) ((k : Int) / 2) = 0 := by omega
 clear hk hg hp1
 go_enter TryQ.func54, Tryz.ntmps54
 unfold ordC
 go_wp2_with fail
 change Code.wp _ _ _ _ (W.alloc (.cells (ordC q.1 dst nonce val g p mi) 43))
 generalize W.alloc (.cells (ordC q.1 dst nonce val g p mi) 43) = w1 at hb0 ho hL ⊢
 refine wp_region_held_drew (S := fun V => V.heap[W.heap.size]? = some (.cells (ordC q.1 dst nonce val g p mi) 43 (0, 0))) (by kernel_rfl) ho (fun hH => ?_)
 refine td (i := 0) (d := some 20) (v := .pointer (some ⟨l, 0, none⟩)) rfl rfl (fun V hW => ?_) hH ?_
 ·clear hW hH
  go_simp
 refine td (i := 1) (d := some 21) (v := .pointer (some ⟨W.heap.size, 0, none⟩)) rfl rfl (fun V hW => ?_) hH ?_
 ·clear hW hH
  go_simp
 refine td (i := 2) (d := some 22) (v := .int .i64 q.1) rfl rfl (fun V hW => ?_) hH ?_
 ·have k0 := blk_cell hW 0
  simp only [ordC, List.getElem?_toArray, List.getElem?_cons_zero] at k0
  clear hW hH
  go_simp
 refine td (i := 3) (d := some 23) (v := .pointer (some ⟨W.heap.size, 7, none⟩)) rfl rfl (fun V hW => ?_) hH ?_
 ·clear hW hH
  go_simp
 refine td (i := 4) (d := some 24) (v := .int .i64 (g : Int)) rfl rfl (fun V hW => ?_) hH ?_
 ·have k0 := blk_cell hW 7
  simp only [ordC, List.getElem?_toArray, List.getElem?_cons_zero, List.getElem?_cons_succ] at k0
  clear hW hH
  go_simp
 refine td (i := 5) (d := some 25) (v := .int .i64 (k : Int)) rfl rfl (fun V hW => ?_) hH ?_
 ·clear hW hH
  go_simp
 refine td (i := 6) (d := some 26) (v := .int .i64 (left : Int)) rfl rfl (fun V hW => ?_) hH ?_
 ·clear hW hH
  go_simp
 refine td (i := 7) (d := some 27) (v := .pointer (some ⟨W.heap.size, 8, none⟩)) rfl rfl (fun V hW => ?_) hH ?_
 ·clear hW hH
  go_simp
 refine td (i := 8) (d := some 28) (v := .int .i64 (p : Int)) rfl rfl (fun V hW => ?_) hH ?_
 ·have k0 := blk_cell hW 8
  simp only [ordC, List.getElem?_toArray, List.getElem?_cons_zero, List.getElem?_cons_succ] at k0
  clear hW hH
  go_simp
 refine r1 (i := 9) rfl (fun K hK => ?_)
 go_simp
 refine (coins50 left p hl1 hp _).mono ?_
 rintro e V1 ⟨rfl, hbn⟩
 go_wp2_with fail
 refine hK.out _ _ ((hbn.block _ (blk_lt hH)).trans hH) (fun hH => ?_)
 clear hK K
 have hb1 : Below w1.heap.size w1 V1 := (Below.refl _ _).drew.trans hbn
 have hL1 := hL.below hb1
 refine r1 (i := 10) rfl (fun K hK => ?_)
 go_simp
 refine (give94 hL1 hq (left * p) hlM (by omega)).mono ?_
 rintro e V2 ⟨rfl, hL2, hp2⟩
 go_wp2_with fail
 refine hK.out _ _ (hp2.obj hH (by show (43 : Nat) ∉ [262]; decide) (by simp; omega)) (fun hH => ?_)
 clear hK K
 refine wpAnyH_done (by kernel_rfl) ?_ _
 go_wp2_with fail
 refine wp_region_held_drew (S := fun V => V.heap[W.heap.size]? = some (.cells (ordC q.1 dst nonce val g p mi) 43 (0, 0))) (by kernel_rfl) hH (fun hH => ?_)
 refine td (i := 0) (d := some 31) (v := .pointer (some ⟨l, 0, none⟩)) rfl rfl (fun V hW => ?_) hH ?_
 ·clear hW hH
  go_simp
 refine td (i := 1) (d := some 32) (v := .pointer (some ⟨W.heap.size, 10, none⟩)) rfl rfl (fun V hW => ?_) hH ?_
 ·clear hW hH
  go_simp
 refine td (i := 2) (d := some 33) (v := .int .i64 mi) rfl rfl (fun V hW => ?_) hH ?_
 ·have k0 := blk_cell hW 10
  simp only [ordC, List.getElem?_toArray, List.getElem?_cons_zero, List.getElem?_cons_succ] at k0
  clear hW hH
  go_simp
 refine td (i := 3) (d := some 34) (v := .int .i64 (k : Int)) rfl rfl (fun V hW => ?_) hH ?_
 ·clear hW hH
  go_simp
 refine td (i := 4) (d := some 35) (v := .pointer (some ⟨W.heap.size, 8, none⟩)) rfl rfl (fun V hW => ?_) hH ?_
 ·clear hW hH
  go_simp
 refine td (i := 5) (d := some 36) (v := .int .i64 (p : Int)) rfl rfl (fun V hW => ?_) hH ?_
 ·have k0 := blk_cell hW 8
  simp only [ordC, List.getElem?_toArray, List.getElem?_cons_zero, List.getElem?_cons_succ] at k0
  clear hW hH
  go_simp
 refine r1 (i := 6) rfl (fun K hK => ?_)
 go_simp
 refine (coins50 k p hk1 hp _).mono ?_
 rintro e V3 ⟨rfl, hbn3⟩
 go_wp2_with fail
 refine hK.out _ _ ((hbn3.block _ (blk_lt hH)).trans hH) (fun hH => ?_)
 clear hK K
 have hb3 : Below V2.heap.size V2 V3 := (Below.refl _ _).drew.trans hbn3
 have hL3 := hL2.below hb3
 refine r1 (i := 7) rfl (fun K hK => ?_)
 go_simp
 refine (give94n hL3 mi (by rw [setA_fst]; exact hmi) (k * p) hkM (by simp; omega)).mono ?_
 rintro e V4 ⟨rfl, ⟨pa, ms, hpa, hL4⟩, hp4⟩
 go_wp2_with fail
 refine hK.out _ _ (hp4.obj hH (by show (43 : Nat) ∉ [262]; decide) (by have := h.map.lt; simp; omega)) (fun hH => ?_)
 clear hK K
 refine wpAnyH_done (by kernel_rfl) ?_ _
 go_wp2
 go_ret
 have hA : Pres [l, q.2.1, m] [262] W V3 := Pres.trans (.of_below (hb0.trans (hb1.mono hb0.size)) _ _) (Pres.trans (hp2.mono (fun k _ hk => by simp at hk; simp; omega) (fun t ht => ht)) (.of_below hb3 _ _))
 exact ⟨rfl, ⟨pa, ms, _, Nat.le_trans hA.size hpa, hL4⟩, hA.trans (hp4.mono (fun k _ hk => by simp at hk; simp; omega) (fun t ht => ht))⟩
end Go.Mark
set_option maxRecDepth 100000
set_option maxHeartbeats 4000000
namespace Go.Mark
open Go.RowKit Go.Proofs
variable [BaseB]
theorem run_empty {W : World} {f : Nat} {F : Frm} (hf : W.heap[f]? = some (.cells (frC F ⟨none, 0, 0⟩) 225 (0, 0))) (ht : F.text.size = 0) (hpl : F.place = 0) (hg : 0 <= F.gas) (hg' : F.gas < 100000000) :
  Rn f (fun v w' => v = .iface 174 (.agg #[.int .i64 F.gas, .string ⟨#[]⟩]) /\ Pres [f] [] W w') 1 W := by
 have hst := step_end hf 0 1 0 (fun w hw => instr_end hw (by rw [ht, hpl]; decide)) (fun w hw => pay_yes hw 0 0 0 0 shape_0 (touches_0 f) (extra_0 f) (by simp) (by decide) (by simp) (by decide) (by decide) hg hg' hg) length_0 (by omega) (by omega) (by decide) (by decide) (fun w hw => do_stop hw)
 refine Calls.mono hst ?_
 rintro e w' ⟨rfl, hp⟩
 exact .inl ⟨_, _, rfl, by simp, hp⟩
theorem call_empty {W : World} {l m mc : Nat} {dm : Dm} {cr : Int} {L : List (Int × Nat × Ac)} {J : List Value} (h : LG W l m dm cr L J) (hm : W.heap[mc]? = some (.cells (machCells l ⟨none, 0, 0⟩ 0 0) 165 (0, 0))) {q p : Int × Nat × Ac} (hq : q ∈ L) (hp : p ∈ L) (hne : q.2.1 ≠ p.2.1) (hcode : p.2.2.code.size = 0) (x : Nat) (hx : x < M) (hle : x <= q.2.2.bal) (gas : Int) (data : SV) (hg : 0 <= gas) (hg' : gas < 100000000) (hJ : J.length < 90) :
  Calls TryQ.prog 92 #[.pointer (some ⟨mc, 0, none⟩), .agg (callC q.1 p.1 x gas data)] W fun e w' => ∃ t v, e = .returned (.iface t v) /\ (Value.iface t v = .iface 174 (.agg #[.int .i64 gas, .string ⟨#[]⟩]) /\ LG w' l m dm cr (setA (setA L q.2.1 { q.2.2 with bal := (q.2.2.bal + M - x) % M }) p.2.1 { p.2.2 with bal := (p.2.2.bal + x) % M }) (J ++ [jBal q.2.1 q.2.2.bal] ++ [jBal p.2.1 p.2.2.bal]) /\ w'.heap[mc]? = some (.cells (machCells l ⟨none, 0, 0⟩ 0 0) 165 (0, 0)) /\ Pres [l, q.2.1, p.2.1, mc] [262] W w') := by
 refine call92 (Ψ := fun u w' => u = .iface 174 (.agg #[.int .i64 gas, .string ⟨#[]⟩]) /\ LG w' l m dm cr (setA (setA L q.2.1 { q.2.2 with bal := (q.2.2.bal + M - x) % M }) p.2.1 { p.2.2 with bal := (p.2.2.bal + x) % M }) (J ++ [jBal q.2.1 q.2.2.bal] ++ [jBal p.2.1 p.2.2.bal]) /\ w'.heap[mc]? = some (.cells (machCells l ⟨none, 0, 0⟩ 0 0) 165 (0, 0)) /\ Pres [l, q.2.1, p.2.1, mc] [262] W w') h hm (by decide) hq hp hne x hx hle gas data (by omega) (fun w f hf hfl hmw hL hpr => ?_)
 have hfm : mc ≠ f := ty_ne hmw hf (by decide)
 have hrun := machRun (W := w) (f := f) (mc := mc) (l := l) (lg := ⟨none, 0, 0⟩) (back := 0) (depth := 0) (n := 1)
  (Φ := fun v w' => ∃ w0, Pres [mc] [] w w0 /\ w0.heap[mc]? = some (.cells (machCells l ⟨none, 0, 0⟩ 0 (0 + 1)) 165 (0, 0)) /\ v = .iface 174 (.agg #[.int .i64 gas, .string ⟨#[]⟩]) /\ Pres [f] [] w0 w')
  hmw (by decide) (by decide)
  (fun w0 h1 h2 => ?_) (fun v w' ⟨w0, h1, h2, h3, h4⟩ => ⟨_, _, h4.obj h2 (by simp [Other]) (by simpa using hfm)⟩)
 rotate_left
 ·have hf0 : w0.heap[f]? = _ := h2.obj hf (by simp [Other]) (by simpa using Ne.symm hfm)
  exact rn_mono (fun v w' ⟨hv, hp⟩ => ⟨w0, h2, h1, hv, hp⟩) _ _ (run_empty hf0 hcode rfl hg hg')
 refine hrun.mono ?_
 rintro e w3 ⟨t, v, w2, lg', back', rfl, ⟨w0, h1, h2, h3, hp3⟩, h4, h5, h6⟩
 refine ⟨t, v, rfl, ?_⟩
 have hf0 : w0.heap[f]? = _ := h1.obj hf (by simp [Other]) (by simpa using Ne.symm hfm)
 have hL0 := hL.keep1 h1 hmw (by simp) (by decide)
 have hL2 := hL0.keep1 hp3 hf0 (by simp) (by decide)
 have hL3 := hL2.keep1 h6 h4 (by simp) (by decide)
 have hmc2 : w2.heap[mc]? = _ := hp3.obj h2 (by simp [Other]) (by simpa using hfm)
 have hmc3 : w3.heap[mc]? = some (.cells (machCells l ⟨none, 0, 0⟩ 0 0) 165 (0, 0)) := by
  rw [hmc2] at h4
  simp only [machCells, Option.some.injEq, Obj.cells.injEq, Array.mk.injEq, List.cons.injEq, Value.slice.injEq, Value.int.injEq, true_and, and_true] at h4
  rw [h5]
  simp only [machCells, <- h4.1.1, <- h4.1.2.1, <- h4.1.2.2, <- h4.2]
 have hpW : Pres [l, q.2.1, p.2.1, mc] [262] W w3 := by
  have e1 : Pres [l, q.2.1, p.2.1, mc] [262] W w0 := (hpr.mono (fun k _ hk => by simp at hk; simp; omega) (fun t ht => ht)).trans (h1.mono (fun k _ hk => by simp at hk; simp [hk]) (fun t ht => by cases ht))
  have e2 := e1.thenx (hp3.mono (B' := [f]) (T' := [262]) (fun k _ hk => hk) (fun t ht => by cases ht)) (fun k hk => by simp at hk; subst hk; exact .inr hfl)
  exact e2.trans (h6.mono (fun k _ hk => by simp at hk; simp [hk]) (fun t ht => by cases ht))
 simp only [Value.iface.injEq] at h3
 obtain ⟨rfl, rfl⟩ := h3
 refine (conclude_well mc _ w3).mono ?_
 rintro e w' ⟨rfl, rfl⟩
 exact ⟨_, _, rfl, rfl, hL3, hmc3, hpW⟩
end Go.Mark
set_option maxRecDepth 100000
set_option maxHeartbeats 4000000
namespace Go.Mark
open Go.RowKit Go.Proofs
variable [BaseB]
structure Plain (a : Ac) (b : Nat) (n : Int) : Prop where
 bal : a.bal = b
 nonce : a.nonce = n
 code : a.code = ⟨#[]⟩
 sl : a.sl = []
def Kn (l m : Nat) (dm : Dm) (cr : Int) (p1 p2 b1 : Nat) (n1 : Int) (b2 : Nat) (jb : Nat) (w : World) : Prop :=
 ∃ J a1 a2, LG w l m dm cr [(1, p1, a1), (2, p2, a2)] J /\ Plain a1 b1 n1 /\ Plain a2 b2 0 /\ J.length < jb
def Kn3 (l m : Nat) (dm : Dm) (cr : Int) (p1 p2 : Nat) (w : World) : Prop :=
 ∃ J a1 a2 p3 a3, LG w l m dm cr [(1, p1, a1), (2, p2, a2), (3, p3, a3)] J /\ Plain a1 8993 1 /\ Plain a2 7 0 /\ Plain a3 21000 0
theorem setA_one {p1 p2 : Nat} {i j : Int} {a1 a2 a : Ac} (h : p1 ≠ p2) : setA [(i, p1, a1), (j, p2, a2)] p1 a = [(i, p1, a), (j, p2, a2)] := by
 simp [setA, Ne.symm h]
theorem setA_two {p1 p2 : Nat} {i j : Int} {a1 a2 a : Ac} (h : p1 ≠ p2) : setA [(i, p1, a1), (j, p2, a2)] p2 a = [(i, p1, a1), (j, p2, a)] := by
 simp [setA, h]
theorem Kn.below {l m : Nat} {dm : Dm} {cr : Int} {p1 p2 b1 : Nat} {n1 : Int} {b2 jb : Nat} {w w' : World} (h : Kn l m dm cr p1 p2 b1 n1 b2 jb w) (hb : Below w.heap.size w w') : Kn l m dm cr p1 p2 b1 n1 b2 jb w' :=
 let ⟨J, a1, a2, h1, h2⟩ := h; ⟨J, a1, a2, h1.below hb, h2⟩
def rKn : Rs := ⟨true, ⟨#[]⟩, 4000, 0, 21000⟩
structure KnMid (W : World) (l m : Nat) (dm : Dm) (cr : Int) (p1 p2 mc : Nat) (t : TypeId) (v : Value) (r : Rs) (w : World) : Prop where
 kn : Kn l m dm cr p1 p2 4993 1 7 50 w
 mc : w.heap[mc]? = some (.cells (machCells l ⟨none, 0, 0⟩ 0 0) 165 (0, 0))
 pr : Pres [l, p1, p2, m] [262] W w
 how : t = 174 /\ v = .agg #[.int .i64 4000, .string ⟨#[]⟩]
 r : r = rKn
theorem mod1 : (30000 + M - 25000 * 1) % M = 5000 := by decide
theorem mod2 : (5000 + M - 7) % M = 4993 := by decide
theorem mod3 : (0 + 7) % M = 7 := by decide
theorem mod4 : (4993 + 4000 * 1) % M = 8993 := by decide
theorem doKnown33 {W : World} {l m dmb p1 p2 : Nat} {cr : Int} (h : Kn l m ⟨dmb, []⟩ cr p1 p2 30000 0 0 10 W) (hne : p1 ≠ p2) :
  Calls TryQ.prog 33 #[.pointer (some ⟨l, 0, none⟩), .agg (ordC 1 2 0 7 ((25000 : Nat) : Int) ((1 : Nat) : Int) 3)] W fun e w' => ∃ r : Rs, e = .returned (.tuple #[.agg (resC r.good r.k r.s), .nilIface]) /\ r = rKn /\ Kn3 l m ⟨dmb, []⟩ cr p1 p2 w' /\ Pres [l, p1, p2, m, dmb] [262] W w' := by
 have h0 := h
 obtain ⟨J0, a1, a2, hL, hP1, hP2, hJ0⟩ := h
 have hln := hL.cell0.1
 have hn1 : p1 < W.heap.size := blk_lt (hL.acc (1, p1, a1) (by simp))
 have hn2 : p2 < W.heap.size := blk_lt (hL.acc (2, p2, a2) (by simp))
 have hmn := hL.map.lt
 have hdn : dmb < W.heap.size := hL.dmap.lt
 refine do33 (g := 25000) (p := 1) (x := 7)
  (S1 := fun w => Kn l m ⟨dmb, []⟩ cr p1 p2 5000 0 0 20 w /\ Pres [l, p1, p2, m] [262] W w)
  (S2 := KnMid W l m ⟨dmb, []⟩ cr p1 p2)
  (S4 := fun r w => r = rKn /\ Kn3 l m ⟨dmb, []⟩ cr p1 p2 w /\ Pres [l, p1, p2, m, dmb] [262] W w)
  (S5 := fun r w => r = rKn /\ Kn3 l m ⟨dmb, []⟩ cr p1 p2 w /\ Pres [l, p1, p2, m, dmb] [262] W w)
  (by decide) (by decide) (fun w hb => ?_) (fun w hb => ?_) (fun w w' h1 hb => ⟨h1.1.below hb, h1.2.trans (.of_below hb _ _)⟩) (fun w mc h1 hmc hm => ?_) (fun mc t v r w w' h1 hb => ⟨h1.kn.below hb, (hb.block _ (blk_lt h1.mc)).trans h1.mc, h1.pr.trans (.of_below hb _ _), h1.how, h1.r⟩) (fun w mc t v r h2 => ?_) (fun w mc t v r h2 => ?_) (fun w mc t v r h2 => ?_) (fun w mc t v r h2 => ?_) (fun w r h4 => ?_) (fun r w w' rb c h4 hrb hc hpp => ?_) (fun r w w' rb c h5 hrb hc hpp => ?_)
 ·exact refusal48 (hL.below hb) (q := (1, p1, a1)) (by simp) (by show (1 : Int) ≠ 0; decide) 2 0 7 25000 1 3 (by decide) (by decide) (by decide) (by decide) (by decide) (by decide) (by decide) hP1.nonce (by decide) (by decide) (by decide) (by decide) (by show _ <= a1.bal; rw [hP1.bal]; decide)
 ·refine (take49 (hL.below hb) (q := (1, p1, a1)) (by simp) (25000 * 1) (by decide) (by omega)).mono ?_
  rintro e w' ⟨rfl, h1, h2⟩
  refine ⟨rfl, ⟨?_, (Pres.of_below hb _ _).trans (h2.mono (fun k _ hk => by simp at hk; simp; omega) (fun t ht => ht))⟩, Kp.pres h2 (fun k hk => by simp at hk; omega) (by decide) (by decide)⟩
  rw [setA_one hne] at h1
  refine ⟨_, _, _, h1, ⟨?_, hP1.nonce, hP1.code, hP1.sl⟩, hP2, by simp; omega⟩
  show (a1.bal + M - 25000 * 1) % M = 5000
  rw [hP1.bal]
  exact mod1
 ·obtain ⟨⟨J1, b1, b2, hL1, hQ1, hQ2, hJ1⟩, hpr1⟩ := h1
  refine begin52 hL1 hm (q := (1, p1, b1)) (by simp) 2 0 7 25000 1 3 (by decide) (by decide) (by decide) (by show 0 <= b1.nonce; rw [hQ1.nonce]; decide) (by show b1.nonce < _; rw [hQ1.nonce]; decide) (by omega)
   (Φ := fun e w' => ∃ t v r, e = .returned (.iface t v) /\ KnMid W l m ⟨dmb, []⟩ cr p1 p2 mc t v r w' /\ Kp W.heap.size w w')
   (fun e w' ⟨t, v, r, he, _⟩ => ⟨t, v, he⟩) (fun w2 data hL2 hm2 hpr2 => ?_)
  rw [setA_one hne] at hL2
  obtain ⟨b3, hb3⟩ : ∃ b3 : Ac, b3 = { b1 with nonce := b1.nonce + 1 } := ⟨_, rfl⟩
  have hQ3 : Plain b3 5000 1 := by rw [hb3]; exact ⟨hQ1.bal, by show b1.nonce + 1 = 1; rw [hQ1.nonce]; rfl, hQ1.code, hQ1.sl⟩
  have hL2' : LG w2 l m ⟨dmb, []⟩ cr [(1, p1, b3), (2, p2, b2)] (J1 ++ [jNonce p1 b1.nonce]) := by rw [hb3]; exact hL2
  have hcl := call_empty hL2' hm2 (q := (1, p1, b3)) (p := (2, p2, b2)) (by simp) (by simp) hne (by show b2.code.size = 0; rw [hQ2.code]; rfl) 7 (by decide) (by show 7 <= b3.bal; rw [hQ3.bal]; decide) (((25000 : Nat) : Int) - 21000) data (by decide) (by decide) (by simp; omega)
  refine hcl.mono ?_
  rintro e w' ⟨t, v, rfl, hv, hL3, hm3, hp3⟩
  simp only [Value.iface.injEq] at hv
  rw [setA_one hne, setA_two hne] at hL3
  have hP3 : Pres [mc, l, p1, p2, m] [262] W w' := ((hpr1.trans (hpr2.mono (fun k _ hk => by simp at hk; simp; omega) (fun t ht => ht))).mono (fun k _ hk => by simp at hk; simp; omega) (fun t ht => ht)).trans (hp3.mono (fun k _ hk => by simp at hk; simp; omega) (fun t ht => ht))
  have hPw : Pres [l, p1, p2, mc] [262] w w' := (hpr2.mono (fun k _ hk => by simp at hk; simp; omega) (fun t ht => ht)).trans hp3
  refine ⟨t, v, rKn, rfl, ⟨⟨_, _, _, hL3, ⟨?_, hQ3.nonce, hQ3.code, hQ3.sl⟩, ⟨?_, hQ2.nonce, hQ2.code, hQ2.sl⟩, by simp; omega⟩, hm3, hP3.drop hmc, ⟨hv.1, hv.2⟩, rfl⟩, hPw.size, fun k c t hk ht hc => hPw.obj hc (by rcases ht with rfl | rfl <;> simp [Other]) ?_⟩
  ·show (b3.bal + M - 7) % M = 4993
   rw [hQ3.bal]
   exact mod2
  ·show (b2.bal + 7) % M = 7
   rw [hQ2.bal]
   exact mod3
  ·have hkm : k ≠ mc := fun e => by
    subst e
    rw [hm] at hc
    simp only [Option.some.injEq, Obj.cells.injEq] at hc
    rcases ht with rfl | rfl <;> exact absurd hc.2.1 (by decide)
   simp only [List.mem_cons, List.not_mem_nil, or_false, not_or]
   omega
 ·obtain ⟨rfl, rfl⟩ := h2.how
  refine (tell_well h2.mc _ _).mono ?_
  rintro e w' ⟨rfl, hb⟩
  exact ⟨by rw [h2.r]; rfl, hb⟩
 ·obtain ⟨rfl, rfl⟩ := h2.how
  refine ⟨366, _, m_leftW _, TryQ.call366, (wellLeft366 _ _ w).mono ?_⟩
  rintro e w' ⟨rfl, hb⟩
  exact ⟨by rw [h2.r]; rfl, hb⟩
 ·exact (back55 h2.mc).mono fun e w' ⟨h1, h3⟩ => ⟨by rw [h1, h2.r]; rfl, h3⟩
 ·obtain ⟨J1, b1, b2, hL1, hQ1, hQ2, hJ1⟩ := h2.kn
  rw [h2.r]
  refine (settle54n hL1 (q := (1, p1, b1)) (by simp) 3 (by simp) 2 0 7 25000 1 4000 21000 (by decide) (by decide) (by decide) (by omega)).mono ?_
  rintro e w' ⟨rfl, ⟨pa, ms, J', hpa, hL4⟩, hp4⟩
  refine ⟨rfl, ⟨rfl, ?_, (h2.pr.mono (fun k _ hk => by simp at hk; simp; omega) (fun t ht => ht)).trans (hp4.mono (fun k _ hk => by simp at hk; simp; omega) (fun t ht => ht))⟩, Kp.pres hp4 (fun k hk => by simp at hk; omega) (by decide) (by decide)⟩
  rw [setA_one hne] at hL4
  refine ⟨_, _, _, _, _, hL4, ⟨?_, hQ1.nonce, hQ1.code, hQ1.sl⟩, hQ2, ⟨rfl, rfl, rfl, rfl⟩⟩
  show (b1.bal + 4000 * 1) % M = 8993
  rw [hQ1.bal]
  exact mod4
 ·obtain ⟨hr, ⟨J', b1, b2, p3, b3, hL3, hQ⟩, hpr⟩ := h4
  refine (settleAll56 hL3).mono ?_
  rintro e w' ⟨rfl, hL4, h2⟩
  exact ⟨rfl, ⟨hr, ⟨_, _, _, _, _, hL4, hQ⟩, hpr.trans (h2.mono (fun k _ hk => by simp at hk; simp; omega) (fun t ht => by cases ht))⟩, Kp.pres h2 (fun k hk => by simp at hk; omega) (by simp) (by simp)⟩
 ·obtain ⟨hr, ⟨J', b1, b2, p3, b3, hL3, hQ⟩, hpr⟩ := h4
  exact ⟨hr, ⟨_, _, _, _, _, hL3.keep1 hpp hc (by simp) (by decide), hQ⟩, hpr.thenx (hpp.mono (fun k _ hk => hk) (fun t ht => by cases ht)) (fun k hk => by simp at hk; subst hk; exact .inr hrb)⟩
 ·obtain ⟨hr, ⟨J', b1, b2, p3, b3, hL3, hQ⟩, hpr⟩ := h5
  exact ⟨hr, ⟨_, _, _, _, _, hL3.keep1 hpp hc (by simp) (by decide), hQ⟩, hpr.thenx (hpp.mono (fun k _ hk => hk) (fun t ht => by cases ht)) (fun k hk => by simp at hk; subst hk; exact .inr hrb)⟩
end Go.Mark
set_option maxRecDepth 100000
namespace Go.Proofs
open Go.Mark Go.RowKit Go.Sort Go.Shelf
def TryQ.sortW_ren : Go.Shelf.Ren := ⟨fun | 6 => 203 | 15 => 160 | 14 => 235 | 28 => 200 | 29 => 201 | 20 => 265 | 21 => 266 | 22 => 267 | 23 => 268 | 24 => 269 | 25 => 270 | 26 => 271 | 27 => 272 | 46 => 308 | 47 => 229 | 48 => 230 | 49 => 309 | 50 => 310 | 57 => 339 | n => n, fun | 22 => 201 | 24 => 41 | 25 => 252 | 3 => 3 | 39 => 93 | 0 => 0 | 53 => 187 | 55 => 39 | 4 => 4 | 46 => 280 | 45 => 279 | 50 => 284 | 5 => 5 | 9 => 9 | 66 => 308 | 70 => 311 | 76 => 339 | 77 => 340 | n => n, fun | n => n⟩
theorem TryQ.sortW : Go.Proofs.SlLaysF0.n6 TryQ.prog TryQ.sortW_ren where
 mixed := by kernel_rfl
 f6 := ⟨ "slices.SortFunc[[]purser/api.Word,purser/api.Word]", by decide, TryQ.func203.trans (congrArg some (by kernel_rfl))⟩
 f14 := ⟨ "slices.pdqsortCmpFunc[purser/api.Word]", by decide, TryQ.func235.trans (congrArg some (by kernel_rfl))⟩
 f15 := TryQ.func160.trans (congrArg some (by kernel_rfl))
 f20 := ⟨ "slices.insertionSortCmpFunc[purser/api.Word]", by decide, TryQ.func265.trans (congrArg some (by kernel_rfl))⟩
 f21 := ⟨ "slices.heapSortCmpFunc[purser/api.Word]", by decide, TryQ.func266.trans (congrArg some (by kernel_rfl))⟩
 f22 := ⟨ "slices.breakPatternsCmpFunc[purser/api.Word]", by decide, TryQ.func267.trans (congrArg some (by kernel_rfl))⟩
 f23 := ⟨ "slices.choosePivotCmpFunc[purser/api.Word]", by decide, TryQ.func268.trans (congrArg some (by kernel_rfl))⟩
 f24 := ⟨ "slices.reverseRangeCmpFunc[purser/api.Word]", by decide, TryQ.func269.trans (congrArg some (by kernel_rfl))⟩
 f25 := ⟨ "slices.partialInsertionSortCmpFunc[purser/api.Word]", by decide, TryQ.func270.trans (congrArg some (by kernel_rfl))⟩
 f26 := ⟨ "slices.partitionEqualCmpFunc[purser/api.Word]", by decide, TryQ.func271.trans (congrArg some (by kernel_rfl))⟩
 f27 := ⟨ "slices.partitionCmpFunc[purser/api.Word]", by decide, TryQ.func272.trans (congrArg some (by kernel_rfl))⟩
 f28 := TryQ.func200.trans (congrArg some (by kernel_rfl))
 f29 := TryQ.func201.trans (congrArg some (by kernel_rfl))
 f46 := ⟨ "slices.siftDownCmpFunc[purser/api.Word]", by decide, TryQ.func308.trans (congrArg some (by kernel_rfl))⟩
 f47 := TryQ.func229.trans (congrArg some (by kernel_rfl))
 f48 := TryQ.func230.trans (congrArg some (by kernel_rfl))
 f49 := ⟨ "slices.medianAdjacentCmpFunc[purser/api.Word]", by decide, TryQ.func309.trans (congrArg some (by kernel_rfl))⟩
 f50 := ⟨ "slices.medianCmpFunc[purser/api.Word]", by decide, TryQ.func310.trans (congrArg some (by kernel_rfl))⟩
 f57 := ⟨ "slices.order2CmpFunc[purser/api.Word]", by decide, TryQ.func339.trans (congrArg some (by kernel_rfl))⟩
 t0 := (q_underlying 0).trans Tryz.underlying0
 a0 := fun w => (q_run_isAgg 0 w).trans (Tryz.isAgg0 w)
 z0 := fun w => (q_run_sizeOf 0 w).trans (Tryz.sizeOf0 w)
 v0 := fun w => (q_run_zeroValue 0 w).trans (Tryz.zeroValue0 w)
 t3 := (q_underlying 3).trans Tryz.underlying3
 a3 := fun w => (q_run_isAgg 3 w).trans (Tryz.isAgg3 w)
 z3 := fun w => (q_run_sizeOf 3 w).trans (Tryz.sizeOf3 w)
 v3 := fun w => (q_run_zeroValue 3 w).trans (Tryz.zeroValue3 w)
 t4 := (q_underlying 4).trans Tryz.underlying4
 a4 := fun w => (q_run_isAgg 4 w).trans (Tryz.isAgg4 w)
 z4 := fun w => (q_run_sizeOf 4 w).trans (Tryz.sizeOf4 w)
 v4 := fun w => (q_run_zeroValue 4 w).trans (Tryz.zeroValue4 w)
 t5 := (q_underlying 5).trans Tryz.underlying5
 a5 := fun w => (q_run_isAgg 5 w).trans (Tryz.isAgg5 w)
 z5 := fun w => (q_run_sizeOf 5 w).trans (Tryz.sizeOf5 w)
 v5 := fun w => (q_run_zeroValue 5 w).trans (Tryz.zeroValue5 w)
 t9 := (q_underlying 9).trans Tryz.underlying9
 a9 := fun w => (q_run_isAgg 9 w).trans (Tryz.isAgg9 w)
 z9 := fun w => (q_run_sizeOf 9 w).trans (Tryz.sizeOf9 w)
 v9 := fun w => (q_run_zeroValue 9 w).trans (Tryz.zeroValue9 w)
 t22 := (q_underlying 201).trans Tryz.underlying201
 a22 := fun w => (q_run_isAgg 201 w).trans (Tryz.isAgg201 w)
 z22 := fun w => (q_run_sizeOf 201 w).trans (Tryz.sizeOf201 w)
 v22 := fun w => (q_run_zeroValue 201 w).trans (Tryz.zeroValue201 w)
 t25 := (q_underlying 252).trans Tryz.underlying252
 a25 := fun w => (q_run_isAgg 252 w).trans (Tryz.isAgg252 w)
 z25 := fun w => (q_run_sizeOf 252 w).trans (Tryz.sizeOf252 w)
 v25 := fun w => (q_run_zeroValue 252 w).trans (Tryz.zeroValue252 w)
 t39 := (q_underlying 93).trans Tryz.underlying93
 a39 := fun w => (q_run_isAgg 93 w).trans (Tryz.isAgg93 w)
 z39 := fun w => (q_run_sizeOf 93 w).trans (Tryz.sizeOf93 w)
 v39 := fun w => (q_run_zeroValue 93 w).trans (Tryz.zeroValue93 w)
 t45 := (q_underlying 279).trans Tryz.underlying279
 a45 := fun w => (q_run_isAgg 279 w).trans (Tryz.isAgg279 w)
 z45 := fun w => (q_run_sizeOf 279 w).trans (Tryz.sizeOf279 w)
 v45 := fun w => (q_run_zeroValue 279 w).trans (Tryz.zeroValue279 w)
 t46 := (q_underlying 280).trans Tryz.underlying280
 a46 := fun w => (q_run_isAgg 280 w).trans (Tryz.isAgg280 w)
 z46 := fun w => (q_run_sizeOf 280 w).trans (Tryz.sizeOf280 w)
 v46 := fun w => (q_run_zeroValue 280 w).trans (Tryz.zeroValue280 w)
 t50 := (q_underlying 284).trans Tryz.underlying284
 a50 := fun w => (q_run_isAgg 284 w).trans (Tryz.isAgg284 w)
 z50 := fun w => (q_run_sizeOf 284 w).trans (Tryz.sizeOf284 w)
 v50 := fun w => (q_run_zeroValue 284 w).trans (Tryz.zeroValue284 w)
 t53 := (q_underlying 187).trans Tryz.underlying187
 a53 := fun w => (q_run_isAgg 187 w).trans (Tryz.isAgg187 w)
 z53 := fun w => (q_run_sizeOf 187 w).trans (Tryz.sizeOf187 w)
 v53 := fun w => (q_run_zeroValue 187 w).trans (Tryz.zeroValue187 w)
 t55 := (q_underlying 39).trans Tryz.underlying39
 a55 := fun w => (q_run_isAgg 39 w).trans (Tryz.isAgg39 w)
 z55 := fun w => (q_run_sizeOf 39 w).trans (Tryz.sizeOf39 w)
 v55 := fun w => (q_run_zeroValue 39 w).trans (Tryz.zeroValue39 w)
 t66 := (q_underlying 308).trans Tryz.underlying308
 a66 := fun w => (q_run_isAgg 308 w).trans (Tryz.isAgg308 w)
 z66 := fun w => (q_run_sizeOf 308 w).trans (Tryz.sizeOf308 w)
 v66 := fun w => (q_run_zeroValue 308 w).trans (Tryz.zeroValue308 w)
 t70 := (q_underlying 311).trans Tryz.underlying311
 a70 := fun w => (q_run_isAgg 311 w).trans (Tryz.isAgg311 w)
 z70 := fun w => (q_run_sizeOf 311 w).trans (Tryz.sizeOf311 w)
 v70 := fun w => (q_run_zeroValue 311 w).trans (Tryz.zeroValue311 w)
 t76 := (q_underlying 339).trans Tryz.underlying339
 a76 := fun w => (q_run_isAgg 339 w).trans (Tryz.isAgg339 w)
 z76 := fun w => (q_run_sizeOf 339 w).trans (Tryz.sizeOf339 w)
 v76 := fun w => (q_run_zeroValue 339 w).trans (Tryz.zeroValue339 w)
 t77 := (q_underlying 340).trans Tryz.underlying340
 a77 := fun w => (q_run_isAgg 340 w).trans (Tryz.isAgg340 w)
 z77 := fun w => (q_run_sizeOf 340 w).trans (Tryz.sizeOf340 w)
 v77 := fun w => (q_run_zeroValue 340 w).trans (Tryz.zeroValue340 w)
end Go.Proofs
