import Derived.Test.YtbephahokhnccaaGreatDoorXK45toK40
set_option linter.unusedSectionVars false
set_option maxRecDepth 100000
set_option maxHeartbeats 4000000
namespace Go.Mark
open Go.RowKit Go.Proofs
variable [BaseB]
attribute [local go_sem] wd
def callC (caller dst : Int) (val : Nat) (gas : Int) (data : SV) : Array Value := #[.int .i64 caller, .int .i64 dst, .int .u64 (lim val 0), .int .u64 (lim val 1), .int .u64 (lim val 2), .int .u64 (lim val 3), .int .i64 gas, .slice data.a data.n data.c]
section
variable {W : World} {l m mc : Nat} {dm : Dm} {cr : Int} {L : List (Int × Nat × Ac)} {J : List Value} {lg : SV} {back depth : Int}
theorem call92 (h : LG W l m dm cr L J) (hm : W.heap[mc]? = some (.cells (machCells l lg back depth) 165 (0, 0))) (hdp : depth ≠ 64) {q p : Int × Nat × Ac} (hq : q ∈ L) (hp : p ∈ L) (hne : q.2.1 ≠ p.2.1) (x : Nat) (hx : x < M) (hle : x <= q.2.2.bal) (gas : Int) (data : SV) (hJ : J.length + 1 < 1000000) {Ψ : Value -> World -> Prop}
  (hrun : ∀ w f, w.heap[f]? = some (.cells (frC ⟨mc, (J.length : Int), (lg.n : Int), back, p.2.2.code, p.2.2.mark, p.1, q.1, x, data, gas, 0, 0⟩ ⟨none, 0, 0⟩) 225 (0, 0)) -> W.heap.size <= f -> w.heap[mc]? = some (.cells (machCells l lg back depth) 165 (0, 0)) -> LG w l m dm cr (setA (setA L q.2.1 { q.2.2 with bal := (q.2.2.bal + M - x) % M }) p.2.1 { p.2.2 with bal := (p.2.2.bal + x) % M }) (J ++ [jBal q.2.1 q.2.2.bal] ++ [jBal p.2.1 p.2.2.bal]) -> Pres [l, q.2.1, p.2.1] [262] W w ->
   Calls TryQ.prog 139 #[.pointer (some ⟨mc, 0, none⟩), .pointer (some ⟨f, 0, none⟩)] w fun e w' => ∃ t v, e = .returned (.iface t v) /\ Calls TryQ.prog 137 #[.pointer (some ⟨mc, 0, none⟩), .iface t v] w' fun e w' => ∃ t v, e = .returned (.iface t v) /\ Ψ (.iface t v) w') :
  Calls TryQ.prog 92 #[.pointer (some ⟨mc, 0, none⟩), .agg (callC q.1 p.1 x gas data)] W fun e w' => ∃ t v, e = .returned (.iface t v) /\ Ψ (.iface t v) w' := by
 have hb0 : Below W.heap.size W (W.alloc (.cells (callC q.1 p.1 x gas data) 172)) := ba
 have hc0 := blk_new W (.cells (callC q.1 p.1 x gas data) 172)
 have hmn := blk_lt hm
 have hln := h.cell0.1
 have hqn := blk_lt (h.acc q hq)
 have hpn := blk_lt (h.acc p hp)
 have hL0 := h.below hb0
 have hmay := mayBegin_yes hL0 (blk_alloc (p := .cells (callC q.1 p.1 x gas data) 172) hm) hdp hq x hx hle
 have hrs : Shut (∀ w f, w.heap[f]? = some (.cells (frC ⟨mc, (J.length : Int), (lg.n : Int), back, p.2.2.code, p.2.2.mark, p.1, q.1, x, data, gas, 0, 0⟩ ⟨none, 0, 0⟩) 225 (0, 0)) -> W.heap.size <= f -> w.heap[mc]? = some (.cells (machCells l lg back depth) 165 (0, 0)) -> LG w l m dm cr (setA (setA L q.2.1 { q.2.2 with bal := (q.2.2.bal + M - x) % M }) p.2.1 { p.2.2 with bal := (p.2.2.bal + x) % M }) (J ++ [jBal q.2.1 q.2.2.bal] ++ [jBal p.2.1 p.2.2.bal]) -> Pres [l, q.2.1, p.2.1] [262] W w ->
   Calls TryQ.prog 139 #[.pointer (some ⟨mc, 0, none⟩), .pointer (some ⟨f, 0, none⟩)] w fun e w' => ∃ t v, e = .returned (.iface t v) /\ Calls TryQ.prog 137 #[.pointer (some ⟨mc, 0, none⟩), .iface t v] w' fun e w' => ∃ t v, e = .returned (.iface t v) /\ Ψ (.iface t v) w') := hrun
 clear hrun
 go_enter TryQ.func92, Tryz.ntmps92
 unfold callC at hb0 hc0 hL0 hmay ⊢
 go_wp2_with fail
 refine hmay.mono ?_
 rintro e w1 ⟨rfl, hb1⟩
 clear hmay
 have hL1 := hL0.below hb1
 have hc1 := (hb1.block _ (blk_lt hc0)).trans hc0
 have hm1 : w1.heap[mc]? = _ := (hb1.block _ (by simp; omega)).trans ((hb0.block _ hmn).trans hm)
 have hbA := hb0.trans (hb1.mono hb0.size)
 have c0 := blk_cell hc1 0
 have c1 := blk_cell hc1 1
 have c2 := blk_cell hc1 2
 have c3 := blk_cell hc1 3
 have c4 := blk_cell hc1 4
 have c5 := blk_cell hc1 5
 have c6 := blk_cell hc1 6
 have c7 := blk_cell hc1 7
 simp only [List.getElem?_toArray, List.getElem?_cons_zero, List.getElem?_cons_succ] at c0 c1 c2 c3 c4 c5 c6 c7
 have hbg := begin134 hL1 hm1 p.1 q.1 x data gas
 unfold fr0 at hbg
 have hcl := blk_lt hc1
 go_wp2_with fail
 refine hbg.mono ?_
 rintro e w2 ⟨rfl, hf2, hb2⟩
 clear hbg c0 c1 c2 c3 c4 c5 c6 c7
 have hL2 := hL1.below hb2
 have hc2 : w2.heap[W.heap.size]? = some (.cells (callC q.1 p.1 x gas data) 172 (0, 0)) := (hb2.block _ hcl).trans hc1
 have hm2 : w2.heap[mc]? = some (.cells (machCells l lg back depth) 165 (0, 0)) := (hb2.block _ (by have := hbA.size; omega)).trans hm1
 have hbB := hbA.trans (hb2.mono hbA.size)
 have hfl : W.heap.size < w1.heap.size := hcl
 generalize w1.heap.size = f at hf2 hfl ⊢
 clear hc1 hm1
 go_wp2_with fail
 refine wp_region_held_drew (S := fun V => V.heap[mc]? = some (.cells (machCells l lg back depth) 165 (0, 0)) /\ V.heap[W.heap.size]? = some (.cells (callC q.1 p.1 x gas data) 172 (0, 0))) (by kernel_rfl) ⟨hm2, hc2⟩ (fun hH => ?_)
 refine td (i := 0) (d := some 34) (v := .pointer (some ⟨f, 0, none⟩)) rfl rfl (fun V hW => ?_) hH ?_
 ·clear hW hH
  go_simp
 refine td (i := 2) (d := some 36) (v := .pointer (some ⟨mc, 0, none⟩)) rfl rfl (fun V hW => ?_) hH ?_
 ·clear hW hH
  go_simp
 refine td (i := 3) (d := some 37) (v := .pointer (some ⟨mc, 0, none⟩)) rfl rfl (fun V hW => ?_) hH ?_
 ·clear hW hH
  go_simp
 refine td (i := 4) (d := some 38) (v := .pointer (some ⟨mc, 0, none⟩)) rfl rfl (fun V hW => ?_) hH ?_
 ·clear hW hH
  go_simp
 refine td (i := 5) (d := some 39) (v := .pointer (some ⟨l, 0, none⟩)) rfl rfl (fun V hW => ?_) hH ?_
 ·have k0 := blk_cell hW.1 0
  simp only [machCells, List.getElem?_toArray, List.getElem?_cons_zero] at k0
  clear hW hH
  go_simp
 refine td (i := 6) (d := some 40) (v := .pointer (some ⟨W.heap.size, 1, none⟩)) rfl rfl (fun V hW => ?_) hH ?_
 ·clear hW hH
  go_simp
 refine td (i := 7) (d := some 41) (v := .int .i64 p.1) rfl rfl (fun V hW => ?_) hH ?_
 ·have k0 := blk_cell hW.2 1
  simp only [callC, List.getElem?_toArray, List.getElem?_cons_zero, List.getElem?_cons_succ] at k0
  clear hW hH
  go_simp
 refine td (i := 1) (d := some 35) (v := .pointer (some ⟨f, 0, none⟩)) rfl rfl (fun V hW => ?_) hH ?_
 ·clear hW hH
  go_simp
 refine r1 (i := 8) rfl (fun K hK => ?_)
 go_simp
 refine (code140 (hL2.below (Below.refl _ _).drew) hp).mono ?_
 rintro e W3 ⟨rfl, hb3⟩
 go_wp2_with fail
 refine hK.out _ _ ⟨(hb3.block _ (blk_lt hH.1)).trans hH.1, (hb3.block _ (blk_lt hH.2)).trans hH.2⟩ (fun hH => ?_)
 clear hK K
 refine td (i := 9) (d := some 33) (v := .tuple #[.string p.2.2.code, .slice p.2.2.mark.a p.2.2.mark.n p.2.2.mark.c]) rfl rfl (fun V hW => ?_) hH ?_
 ·clear hW hH
  go_simp
 refine td (i := 10) (d := some 43) (v := .string p.2.2.code) rfl rfl (fun V hW => ?_) hH ?_
 ·clear hW hH
  go_simp
 refine td (i := 11) (d := some 44) (v := .slice p.2.2.mark.a p.2.2.mark.n p.2.2.mark.c) rfl rfl (fun V hW => ?_) hH ?_
 ·clear hW hH
  go_simp
 refine td (i := 12) (d := some 45) (v := .pointer (some ⟨f, 0, none⟩)) rfl rfl (fun V hW => ?_) hH ?_
 ·clear hW hH
  go_simp
 refine td (i := 13) (d := some 46) (v := .pointer (some ⟨f, 4, none⟩)) rfl rfl (fun V hW => ?_) hH ?_
 ·clear hW hH
  go_simp
 have hf3 := (hb3.block _ (blk_lt hf2)).trans hf2
 have hfm := ty_ne hH.1 hf3 (by decide)
 have hfc := ty_ne hH.2 hf3 (by decide)
 have g4 := blk_cell hf3 4
 have g5 := blk_cell hf3 5
 have z4 := blk_fz hf3 4
 have z5 := blk_fz hf3 5
 simp only [frC, List.getElem?_toArray, List.getElem?_cons_zero, List.getElem?_cons_succ] at g4 g5
 refine r1 (i := 14) rfl (fun K hK => ?_)
 go_simp
 refine hK.out _ _ ⟨blk_set_other hH.1 hfm, blk_set_other hH.2 hfc⟩ (fun hH => ?_)
 clear hK K
 refine td (i := 15) (d := some 47) (v := .pointer (some ⟨f, 0, none⟩)) rfl rfl (fun V hW => ?_) hH ?_
 ·clear hW hH
  go_simp
 refine td (i := 16) (d := some 48) (v := .pointer (some ⟨f, 5, none⟩)) rfl rfl (fun V hW => ?_) hH ?_
 ·clear hW hH
  go_simp
 refine r1 (i := 17) rfl (fun K hK => ?_)
 go_simp
 refine hK.out _ _ ⟨blk_set_other hH.1 hfm, blk_set_other hH.2 hfc⟩ (fun hH => ?_)
 clear hK K
 refine wpAnyH_done (by kernel_rfl) ?_ _
 have hf4 : ((W3.setCell ⟨f, 4, none⟩ (.string p.2.2.code)).setCell ⟨f, 5, none⟩ (.slice p.2.2.mark.a p.2.2.mark.n p.2.2.mark.c)).heap[f]? = some (.cells (frC ⟨mc, (J.length : Int), (lg.n : Int), back, p.2.2.code, p.2.2.mark, p.1, q.1, x, data, gas, 0, 0⟩ ⟨none, 0, 0⟩) 225 (0, 0)) := blk_set (i := 5) (blk_set (i := 4) hf3)
 have hb3A := hbB.trans ((Below.refl _ w2).drew.trans hb3 |>.mono hbB.size)
 have hbC : Below W.heap.size W _ := (hb3A.setCell (p := ⟨f, 4, none⟩) (Nat.le_of_lt hfl) (.string p.2.2.code)).setCell (p := ⟨f, 5, none⟩) (Nat.le_of_lt hfl) (.slice p.2.2.mark.a p.2.2.mark.n p.2.2.mark.c)
 generalize (W3.setCell ⟨f, 4, none⟩ (.string p.2.2.code)).setCell ⟨f, 5, none⟩ (.slice p.2.2.mark.a p.2.2.mark.n p.2.2.mark.c) = W4 at hH hf4 hbC ⊢
 have hL4 := h.below hbC
 clear g4 g5 z4 z5 hf3 hb3 hb3A
 go_wp2_with fail
 refine wp_region_held_drew (S := fun V => V.heap[mc]? = some (.cells (machCells l lg back depth) 165 (0, 0)) /\ V.heap[W.heap.size]? = some (.cells (callC q.1 p.1 x gas data) 172 (0, 0))) (by kernel_rfl) hH (fun hH => ?_)
 refine td (i := 0) (d := some 49) (v := .pointer (some ⟨mc, 0, none⟩)) rfl rfl (fun V hW => ?_) hH ?_
 ·clear hW hH
  go_simp
 refine td (i := 1) (d := some 50) (v := .pointer (some ⟨mc, 0, none⟩)) rfl rfl (fun V hW => ?_) hH ?_
 ·clear hW hH
  go_simp
 refine td (i := 2) (d := some 51) (v := .pointer (some ⟨mc, 0, none⟩)) rfl rfl (fun V hW => ?_) hH ?_
 ·clear hW hH
  go_simp
 refine td (i := 3) (d := some 52) (v := .pointer (some ⟨l, 0, none⟩)) rfl rfl (fun V hW => ?_) hH ?_
 ·have k0 := blk_cell hW.1 0
  simp only [machCells, List.getElem?_toArray, List.getElem?_cons_zero] at k0
  clear hW hH
  go_simp
 refine td (i := 4) (d := some 53) (v := .pointer (some ⟨W.heap.size, 0, none⟩)) rfl rfl (fun V hW => ?_) hH ?_
 ·clear hW hH
  go_simp
 refine td (i := 5) (d := some 54) (v := .int .i64 q.1) rfl rfl (fun V hW => ?_) hH ?_
 ·have k0 := blk_cell hW.2 0
  simp only [callC, List.getElem?_toArray, List.getElem?_cons_zero] at k0
  clear hW hH
  go_simp
 refine td (i := 6) (d := some 55) (v := .pointer (some ⟨W.heap.size, 1, none⟩)) rfl rfl (fun V hW => ?_) hH ?_
 ·clear hW hH
  go_simp
 refine td (i := 7) (d := some 56) (v := .int .i64 p.1) rfl rfl (fun V hW => ?_) hH ?_
 ·have k0 := blk_cell hW.2 1
  simp only [callC, List.getElem?_toArray, List.getElem?_cons_zero, List.getElem?_cons_succ] at k0
  clear hW hH
  go_simp
 refine td (i := 8) (d := some 57) (v := .pointer (some ⟨W.heap.size, 2, none⟩)) rfl rfl (fun V hW => ?_) hH ?_
 ·clear hW hH
  go_simp
 refine td (i := 9) (d := some 58) (v := wd x) rfl rfl (fun V hW => ?_) hH ?_
 ·have k0 := blk_cell hW.2 2
  have k1 := blk_cell hW.2 3
  have k2 := blk_cell hW.2 4
  have k3 := blk_cell hW.2 5
  simp only [callC, List.getElem?_toArray, List.getElem?_cons_zero, List.getElem?_cons_succ] at k0 k1 k2 k3
  clear hW hH
  go_simp
 refine r1 (i := 10) rfl (fun K hK => ?_)
 go_simp
 refine (send136 (hL4.below (Below.refl _ _).drew) hq hp hne x hx hJ).mono ?_
 rintro e W5 ⟨rfl, hL5, hp5⟩
 go_wp2_with fail
 have hm5 : W5.heap[mc]? = _ := hp5.obj hH.1 (by show (165 : Nat) ∉ [262]; decide) (by have hj := (h.below hbC).lj.ex; obtain ⟨jv, hj, _⟩ := hj; have e1 := ty_ne hH.1 hj (by decide); have e2 := ty_ne hH.1 (hL4.acc q hq) (by decide); have e3 := ty_ne hH.1 (hL4.acc p hp) (by decide); simp only [List.mem_cons, List.not_mem_nil, or_false, not_or]; exact ⟨e1, e2, e3⟩)
 refine hK.out _ _ ⟨hm5, hp5.obj hH.2 (by show (172 : Nat) ∉ [262]; decide) (by simp; omega)⟩ (fun hH => ?_)
 clear hK K
 refine wpAnyH_done (by kernel_rfl) ?_ _
 have hf5 : W5.heap[f]? = _ := hp5.obj hf4 (by show (225 : Nat) ∉ [262]; decide) (by simp; omega)
 have hpA : Pres [l, q.2.1, p.2.1] [262] W W5 := Pres.trans (.of_below hbC _ _) (Pres.trans (.of_below (Below.refl _ _).drew _ _) hp5)
 have hr1 := hrs.out W5 f hf5 (Nat.le_of_lt hfl) hm5 hL5 hpA
 clear hrs
 go_wp2_with fail
 refine hr1.mono ?_
 rintro e w6 ⟨t, v, rfl, hcon⟩
 clear hr1
 go_wp2_with fail
 refine hcon.mono ?_
 rintro e w7 ⟨t, v, rfl, hΨ⟩
 clear hcon
 go_wp2
 go_ret
 exact ⟨t, v, rfl, hΨ⟩
end
end Go.Mark
set_option maxRecDepth 100000
set_option maxHeartbeats 4000000
namespace Go.Mark
open Go.RowKit Go.Proofs
variable [BaseB]
attribute [local go_sem] wd
theorem conv_sb (s : ByteArray) (w : World) : ∃ c w', (convert 9 31 (.string s)).run TryQ.prog w = .ok (.slice (some ⟨w.heap.size, 0, none⟩) s.size c) w' /\ Below w.heap.size w w' := by
 refine ⟨_, _, run_bytes_of_string w 9 31 5 s ((q_underlying 9).trans Tryz.underlying9) ((q_underlying 31).trans Tryz.underlying31) ((q_underlying 5).trans Tryz.underlying5), ?_⟩
 exact (Below.refl _ _).drew.alloc (Nat.le_refl _) _
section
variable {W : World} {l m mc : Nat} {dm : Dm} {cr : Int} {L : List (Int × Nat × Ac)} {J : List Value} {lg : SV} {back depth : Int}
theorem begin52 (h : LG W l m dm cr L J) (hm : W.heap[mc]? = some (.cells (machCells l lg back depth) 165 (0, 0))) {q : Int × Nat × Ac} (hq : q ∈ L) (dst nonce : Int) (x g : Nat) (price miner : Int) (hd : dst ≠ 0) (hg : 21000 <= g) (hg1 : g <= 1000000) (hn : 0 <= q.2.2.nonce) (hn' : q.2.2.nonce < 4611686018427387905) (hJ : J.length < 1000000) {Φ : Ending -> World -> Prop}
  (hΦ : ∀ e w, Φ e w -> ∃ t v, e = .returned (.iface t v))
  (hcall : ∀ w data, LG w l m dm cr (setA L q.2.1 { q.2.2 with nonce := q.2.2.nonce + 1 }) (J ++ [jNonce q.2.1 q.2.2.nonce]) -> w.heap[mc]? = some (.cells (machCells l lg back depth) 165 (0, 0)) -> Pres [l, q.2.1] [262] W w -> Calls TryQ.prog 92 #[.pointer (some ⟨mc, 0, none⟩), .agg (callC q.1 dst x ((g : Int) - 21000) data)] w Φ) :
  Calls TryQ.prog 52 #[.pointer (some ⟨mc, 0, none⟩), .pointer (some ⟨l, 0, none⟩), .agg (ordC q.1 dst nonce x (g : Int) price miner)] W Φ := by
 have hb0 : Below W.heap.size W (W.alloc (.cells (ordC q.1 dst nonce x (g : Int) price miner) 43)) := ba
 have ho := blk_new W (.cells (ordC q.1 dst nonce x (g : Int) price miner) 43)
 have hmn := blk_lt hm
 have hln := h.cell0.1
 have hqn := blk_lt (h.acc q hq)
 have i1 : IntKind.i64.wrap ((g : Int) - 21000) = (g : Int) - 21000 := IntWalk.i64_in _ ⟨by omega, by omega⟩
 have hcs : Shut (∀ w data, LG w l m dm cr (setA L q.2.1 { q.2.2 with nonce := q.2.2.nonce + 1 }) (J ++ [jNonce q.2.1 q.2.2.nonce]) -> w.heap[mc]? = some (.cells (machCells l lg back depth) 165 (0, 0)) -> Pres [l, q.2.1] [262] W w -> Calls TryQ.prog 92 #[.pointer (some ⟨mc, 0, none⟩), .agg (callC q.1 dst x ((g : Int) - 21000) data)] w Φ) := hcall
 have hΦs : Shut (∀ e w, Φ e w -> ∃ t v, e = .returned (.iface t v)) := hΦ
 clear hcall hΦ
 go_enter TryQ.func52, Tryz.ntmps52
 unfold ordC
 go_wp2_with fail
 change Code.wp _ _ _ _ (W.alloc (.cells (ordC q.1 dst nonce x (g : Int) price miner) 43))
 generalize W.alloc (.cells (ordC q.1 dst nonce x (g : Int) price miner) 43) = w0 at hb0 ho ⊢
 refine wp_region_held_drew (S := fun V => V.heap[W.heap.size]? = some (.cells (ordC q.1 dst nonce x (g : Int) price miner) 43 (0, 0))) (by kernel_rfl) ho (fun hH => ?_)
 refine td (i := 0) (d := some 8) (v := .pointer (some ⟨W.heap.size, 7, none⟩)) rfl rfl (fun V hW => ?_) hH ?_
 ·clear hW hH
  go_simp
 refine td (i := 1) (d := some 9) (v := .int .i64 (g : Int)) rfl rfl (fun V hW => ?_) hH ?_
 ·have k0 := blk_cell hW 7
  simp only [ordC, List.getElem?_toArray, List.getElem?_cons_zero, List.getElem?_cons_succ] at k0
  clear hW hH
  go_simp
 refine td (i := 2) (d := some 10) (v := .agg (ordC q.1 dst nonce x (g : Int) price miner)) rfl rfl (fun V hW => ?_) hH ?_
 ·have k0 := blk_cell hW 0
  have k1 := blk_cell hW 1
  have k2 := blk_cell hW 2
  have k3 := blk_cell hW 3
  have k4 := blk_cell hW 4
  have k5 := blk_cell hW 5
  have k6 := blk_cell hW 6
  have k7 := blk_cell hW 7
  have k8 := blk_cell hW 8
  have k9 := blk_cell hW 9
  have k10 := blk_cell hW 10
  simp only [ordC, List.getElem?_toArray, List.getElem?_cons_zero, List.getElem?_cons_succ] at k0 k1 k2 k3 k4 k5 k6 k7 k8 k9 k10
  clear hW hH
  unfold ordC
  go_simp
 refine r1 (i := 3) rfl (fun K hK => ?_)
 go_simp
 refine (costAtOnce84 q.1 dst nonce x g price miner hd _).mono ?_
 rintro e V1 ⟨rfl, hbn⟩
 go_wp2_with fail
 refine hK.out _ _ ((hbn.block _ (blk_lt hH)).trans hH) (fun hH => ?_)
 clear hK K
 refine r1 (i := 4) rfl (fun K hK => ?_)
 go_simp
 refine hK.out _ _ hH (fun hH => ?_)
 clear hK K
 refine r1 (i := 5) rfl (fun K hK => ?_)
 go_simp
 refine hK.out _ _ hH (fun hH => ?_)
 clear hK K
 refine wpAnyH_done (by kernel_rfl) ?_ _
 have hb1 : Below W.heap.size W V1 := hb0.trans ((Below.refl _ w0).drew.trans hbn |>.mono hb0.size)
 have hL1 := h.below hb1
 have hm1 := (hb1.block _ hmn).trans hm
 have hrs := raise91 hL1 hq hn hn' hJ
 have hol := blk_lt hH
 have c0 := blk_cell hH 0
 have c1 := blk_cell hH 1
 simp only [ordC, List.getElem?_toArray, List.getElem?_cons_zero, List.getElem?_cons_succ] at c0 c1
 go_wp2_with fail
 refine hrs.mono ?_
 rintro e w2 ⟨rfl, hL2, hp2⟩
 clear hrs c0 c1
 have ho2 : w2.heap[W.heap.size]? = some (.cells (ordC q.1 dst nonce x (g : Int) price miner) 43 (0, 0)) := hp2.obj hH (by show (43 : Nat) ∉ [262]; decide) (by simp; omega)
 have hm2 : w2.heap[mc]? = _ := hp2.obj hm1 (by show (165 : Nat) ∉ [262]; decide) (by
  obtain ⟨jv, hj, _⟩ := hL1.lj.ex
  simp only [List.mem_cons, List.not_mem_nil, or_false, not_or]
  exact ⟨ty_ne hm1 hj (by decide), ty_ne hm1 (hL1.acc q hq) (by decide)⟩)
 obtain ⟨cc, w3, hcv, hb3⟩ := conv_sb ⟨#[]⟩ w2
 have hol2 := blk_lt ho2
 have c0 := blk_cell ho2 0
 have c1 := blk_cell ho2 1
 have c3 := blk_cell ho2 3
 have c4 := blk_cell ho2 4
 have c5 := blk_cell ho2 5
 have c6 := blk_cell ho2 6
 have c9 := blk_cell ho2 9
 simp only [ordC, List.getElem?_toArray, List.getElem?_cons_zero, List.getElem?_cons_succ] at c0 c1 c3 c4 c5 c6 c9
 have hpA : Pres [l, q.2.1] [262] W w3 := Pres.trans (.of_below hb1 _ _) (Pres.trans hp2 (.of_below hb3 _ _))
 have hcl := hcs.out w3 ⟨some ⟨w2.heap.size, 0, none⟩, 0, cc⟩ (hL2.below hb3) ((hb3.block _ (blk_lt hm2)).trans hm2) hpA
 clear hcs
 unfold callC at hcl
 go_wp2_with fail
 refine hcl.mono ?_
 intro e w4 he
 obtain ⟨t, v, rfl⟩ := hΦs.out _ _ he
 have hes : Shut (Φ (.returned (.iface t v)) w4) := he
 clear hcl he hΦs
 go_wp2
 exact hes.out
end
end Go.Mark
set_option maxRecDepth 100000
set_option maxHeartbeats 1000000
namespace Go.Mark
open Go.RowKit Go.Proofs
variable [BaseB]
theorem mach51 (l : Nat) (W : World) :
  Calls TryQ.prog 51 #[.pointer (some ⟨l, 0, none⟩)] W fun e w' => e = .returned (.pointer (some ⟨W.heap.size, 0, none⟩)) /\ w'.heap[W.heap.size]? = some (.cells (machCells l ⟨none, 0, 0⟩ 0 0) 165 (0, 0)) /\ Below W.heap.size W w' := by
 go_enter TryQ.func51, Tryz.ntmps51
 go_wp2
 go_ret
 exact ⟨rfl, blk_new W _, ba⟩
section
variable {W : World} {l mc : Nat} {lg : SV} {back depth : Int}
theorem back55 (hm : W.heap[mc]? = some (.cells (machCells l lg back depth) 165 (0, 0))) :
  Calls TryQ.prog 55 #[.pointer (some ⟨mc, 0, none⟩)] W fun e w' => e = .returned (.int .i64 back) /\ w' = W := by
 have c2 := blk_cell hm 2
 simp only [machCells, List.getElem?_toArray, List.getElem?_cons_zero, List.getElem?_cons_succ] at c2
 go_enter TryQ.func55, Tryz.ntmps55
 go_wp2
 go_ret
 exact ⟨rfl, rfl⟩
theorem eq_nil32 (V : World) : (binOp BinOp.eql 32 (Value.slice none 0 0) (Value.slice none 0 0)).run TryQ.prog V = .ok (.bool true) V := by kernel_rfl
theorem logs93 (hm : W.heap[mc]? = some (.cells (machCells l ⟨none, 0, 0⟩ back depth) 165 (0, 0))) :
  Calls TryQ.prog 93 #[.pointer (some ⟨mc, 0, none⟩)] W fun e w' => e = .returned (.slice none 0 0) /\ w' = W := by
 have c1 := blk_cell hm 1
 simp only [machCells, List.getElem?_toArray, List.getElem?_cons_zero, List.getElem?_cons_succ] at c1
 have hq := eq_nil32
 go_enter TryQ.func93, Tryz.ntmps93
 go_wp2
 go_ret
 exact ⟨rfl, rfl⟩
end
end Go.Mark
set_option maxRecDepth 100000
set_option maxHeartbeats 4000000
namespace Go.Mark
open Go.RowKit Go.Proofs
variable [BaseB]
attribute [local go_sem] wd
theorem ta174 (v : Value) (w : World) : (Instr.typeAssert (.iface 174 v) 116 174 true).run TryQ.prog w = .ok (.tuple #[v, .bool true]) w := by kernel_rfl
theorem ta174_217 (v : Value) (w : World) : (Instr.typeAssert (.iface 217 v) 116 174 true).run TryQ.prog w = .ok (.tuple #[.agg #[.int .i64 0, .string ⟨#[]⟩], .bool false]) w := by kernel_rfl
theorem ta177_217 (v : Value) (w : World) : (Instr.typeAssert (.iface 217 v) 116 177 true).run TryQ.prog w = .ok (.tuple #[.agg #[.int .i64 0, .int .i64 0], .bool false]) w := by kernel_rfl
def resC (good : Bool) (gas : Int) (s : ByteArray) : Array Value := #[.bool good, .int .i64 gas, .int .i64 0, .slice none 0 0, .string s]
section
variable {W : World} {l mc : Nat} {back depth : Int}
theorem tell_bad (v : Value) (mc : Nat) (W : World) :
  Calls TryQ.prog 53 #[.pointer (some ⟨mc, 0, none⟩), .iface 217 v] W fun e w' => e = .returned (.agg (resC false 0 ⟨#[]⟩)) /\ Below W.heap.size W w' := by
 have h1 := ta174_217
 have h2 := ta177_217
 go_enter TryQ.func53, Tryz.ntmps53
 go_wp2
 simp [bodyPost, results, Tryz.results53, go_sem, resC]
 exact ba
theorem tell_well (hm : W.heap[mc]? = some (.cells (machCells l ⟨none, 0, 0⟩ back depth) 165 (0, 0))) (g : Int) (s : ByteArray) :
  Calls TryQ.prog 53 #[.pointer (some ⟨mc, 0, none⟩), .iface 174 (.agg #[.int .i64 g, .string s])] W fun e w' => e = .returned (.agg (resC true 0 s)) /\ Below W.heap.size W w' := by
 have h1 := ta174
 have hb1 : Below W.heap.size W ((W.alloc (.cells #[.bool false, .int .i64 0, .int .i64 0, .slice none 0 0, .string ⟨#[]⟩] 34)).alloc (.cells #[.int .i64 g, .string s] 174)) := ba.alloc (by simp) _
 have hr1 : ((W.alloc (.cells #[.bool false, .int .i64 0, .int .i64 0, .slice none 0 0, .string ⟨#[]⟩] 34)).alloc (.cells #[.int .i64 g, .string s] 174)).heap[W.heap.size]? = some (.cells #[.bool false, .int .i64 0, .int .i64 0, .slice none 0 0, .string ⟨#[]⟩] 34 (0, 0)) := blk_alloc (blk_new W _)
 have hw1 : ((W.alloc (.cells #[.bool false, .int .i64 0, .int .i64 0, .slice none 0 0, .string ⟨#[]⟩] 34)).alloc (.cells #[.int .i64 g, .string s] 174)).heap[W.heap.size + 1]? = some (.cells #[.int .i64 g, .string s] 174 (0, 0)) := by
  have := blk_new (W.alloc (.cells #[.bool false, .int .i64 0, .int .i64 0, .slice none 0 0, .string ⟨#[]⟩] 34)) (.cells #[.int .i64 g, .string s] 174)
  simpa using this
 have hm1 : ((W.alloc (.cells #[.bool false, .int .i64 0, .int .i64 0, .slice none 0 0, .string ⟨#[]⟩] 34)).alloc (.cells #[.int .i64 g, .string s] 174)).heap[mc]? = _ := blk_alloc (blk_alloc hm)
 have hmn := blk_lt hm
 go_enter TryQ.func53, Tryz.ntmps53
 go_wp2_with fail
 change Code.wp _ _ _ _ ((W.alloc (.cells #[.bool false, .int .i64 0, .int .i64 0, .slice none 0 0, .string ⟨#[]⟩] 34)).alloc (.cells #[.int .i64 g, .string s] 174))
 generalize (W.alloc (.cells #[.bool false, .int .i64 0, .int .i64 0, .slice none 0 0, .string ⟨#[]⟩] 34)).alloc (.cells #[.int .i64 g, .string s] 174) = w1 at hb1 hr1 hw1 hm1 ⊢
 refine wp_region_held_drew (S := fun V => V.heap[mc]? = some (.cells (machCells l ⟨none, 0, 0⟩ back depth) 165 (0, 0)) /\ V.heap[W.heap.size + 1]? = some (.cells #[.int .i64 g, .string s] 174 (0, 0))) (by kernel_rfl) ⟨hm1, hw1⟩ (fun hH => ?_)
 refine td (i := 0) (d := some 13) (v := .pointer (some ⟨mc, 0, none⟩)) rfl rfl (fun V hW => ?_) hH ?_
 ·clear hW hH
  go_simp
 refine td (i := 2) (d := some 15) (v := .pointer (some ⟨(W.heap.size + 1), 1, none⟩)) rfl rfl (fun V hW => ?_) hH ?_
 ·clear hW hH
  go_simp
 refine td (i := 3) (d := some 16) (v := .string s) rfl rfl (fun V hW => ?_) hH ?_
 ·have k0 := blk_cell hW.2 1
  simp only [List.getElem?_toArray, List.getElem?_cons_zero, List.getElem?_cons_succ] at k0
  clear hW hH
  go_simp
 refine r1 (i := 1) rfl (fun K hK => ?_)
 go_simp
 refine (logs93 hH.1).mono ?_
 rintro e V1 ⟨rfl, hV1⟩
 subst hV1
 go_wp2_with fail
 refine hK.out _ _ hH (fun hH => ?_)
 clear hK K
 refine r1 (i := 4) rfl (fun K hK => ?_)
 go_simp
 refine hK.out _ _ hH (fun hH => ?_)
 clear hK K
 have e0 := blk_cell hr1 0
 have z0 := blk_fz hr1 0
 have e1 := blk_cell hr1 1
 have z1 := blk_fz hr1 1
 have e2 := blk_cell hr1 2
 have z2 := blk_fz hr1 2
 have e3 := blk_cell hr1 3
 have z3 := blk_fz hr1 3
 have e4 := blk_cell hr1 4
 have z4 := blk_fz hr1 4
 simp only [List.getElem?_toArray, List.getElem?_cons_zero, List.getElem?_cons_succ] at e0 e1 e2 e3 e4
 refine r1 (i := 5) rfl (fun K hK => ?_)
 go_simp
 have hrm : mc ≠ W.heap.size := by omega
 refine hK.out _ _ ⟨blk_set_other (blk_set_other (blk_set_other (blk_set_other (blk_set_other hm1 hrm) hrm) hrm) hrm) hrm, blk_set_other (blk_set_other (blk_set_other (blk_set_other (blk_set_other hw1 (by omega)) (by omega)) (by omega)) (by omega)) (by omega)⟩ (fun hH => ?_)
 clear hK K
 refine wpAnyH_done (by kernel_rfl) ?_ _
 have hr2 := blk_set (i := 4) (v := .string s) (blk_set (i := 3) (v := .slice none 0 0) (blk_set (i := 2) (v := .int .i64 0) (blk_set (i := 1) (v := .int .i64 0) (blk_set (i := 0) (v := .bool true) hr1))))
 have hb2 := ((((hb1.setCell (p := ⟨W.heap.size, 0, none⟩) (by exact Nat.le_refl _) (.bool true)).setCell (p := ⟨W.heap.size, 1, none⟩) (by exact Nat.le_refl _) (.int .i64 0)).setCell (p := ⟨W.heap.size, 2, none⟩) (by exact Nat.le_refl _) (.int .i64 0)).setCell (p := ⟨W.heap.size, 3, none⟩) (by exact Nat.le_refl _) (.slice none 0 0)).setCell (p := ⟨W.heap.size, 4, none⟩) (by exact Nat.le_refl _) (.string s)
 generalize ((((w1.setCell ⟨W.heap.size, 0, none⟩ (.bool true)).setCell ⟨W.heap.size, 1, none⟩ (.int .i64 0)).setCell ⟨W.heap.size, 2, none⟩ (.int .i64 0)).setCell ⟨W.heap.size, 3, none⟩ (.slice none 0 0)).setCell ⟨W.heap.size, 4, none⟩ (.string s) = w5 at hr2 hb2 hH ⊢
 clear e0 e1 e2 e3 e4
 have e0 := blk_cell hr2 0
 have e1 := blk_cell hr2 1
 have e2 := blk_cell hr2 2
 have e3 := blk_cell hr2 3
 have e4 := blk_cell hr2 4
 simp only [List.getElem?_toArray, List.getElem?_cons_zero, List.getElem?_cons_succ, List.setIfInBounds_toArray, List.set_cons_zero, List.set_cons_succ] at e0 e1 e2 e3 e4
 go_wp2
 simp [bodyPost, results, Tryz.results53, go_sem, resC, e0, e1, e2, e3, e4]
 exact hb2.drew
end
end Go.Mark
