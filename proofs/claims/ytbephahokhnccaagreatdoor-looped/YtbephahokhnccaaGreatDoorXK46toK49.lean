import Derived.Test.YtbephahokhnccaaGreatDoorXK42toK44
set_option linter.unusedSectionVars false
set_option maxRecDepth 100000
set_option maxHeartbeats 8000000
namespace Go.Mark
open Go.RowKit Go.Proofs
variable [BaseB]
attribute [local go_sem] wd
structure Rs where
 good : Bool
 s : ByteArray
 left : Int
 back : Int
 k : Int
def Stab (S : World -> Prop) : Prop := ∀ w w', S w -> Below w.heap.size w w' -> S w'
def Kp (B : Nat) (w w' : World) : Prop := w.heap.size <= w'.heap.size /\ ∀ (k : Nat) (c : Array Value) (t : TypeId), B <= k -> (t = 43 \/ t = 34) -> w.heap[k]? = some (.cells c t (0, 0)) -> w'.heap[k]? = some (.cells c t (0, 0))
theorem Kp.pres {B : Nat} {w w' : World} {X : List Nat} {T : List TypeId} (h : Pres X T w w') (hX : ∀ k ∈ X, k < B) (h43 : 43 ∉ T) (h34 : 34 ∉ T) : Kp B w w' :=
 ⟨h.size, fun k c t hk ht h1 => h.obj h1 (by rcases ht with rfl | rfl; exact h43; exact h34) (fun e => by have := hX k e; omega)⟩
theorem do33 {W : World} {l g p x : Nat} {src dst nonce miner : Int} {S1 : World -> Prop} {S2 : Nat -> TypeId -> Value -> Rs -> World -> Prop} {S4 S5 : Rs -> World -> Prop} (hg : g < 100000000) (hp : p < 100000000)
  (hr : ∀ w, Below W.heap.size W w -> Calls TryQ.prog 48 #[.pointer (some ⟨l, 0, none⟩), .agg (ordC src dst nonce x (g : Int) (p : Int) miner)] w fun e w' => e = .returned (.int .i64 0) /\ Below w.heap.size w w')
  (ht : ∀ w, Below W.heap.size W w -> Calls TryQ.prog 49 #[.pointer (some ⟨l, 0, none⟩), .int .i64 src, wd (g * p)] w fun e w' => e = .returned (.tuple #[]) /\ S1 w' /\ Kp W.heap.size w w')
  (hS1 : Stab S1)
  (hb : ∀ w mc, S1 w -> W.heap.size <= mc -> w.heap[mc]? = some (.cells (machCells l ⟨none, 0, 0⟩ 0 0) 165 (0, 0)) -> Calls TryQ.prog 52 #[.pointer (some ⟨mc, 0, none⟩), .pointer (some ⟨l, 0, none⟩), .agg (ordC src dst nonce x (g : Int) (p : Int) miner)] w fun e w' => ∃ t v r, e = .returned (.iface t v) /\ S2 mc t v r w' /\ Kp W.heap.size w w')
  (hS2 : ∀ mc t v r, Stab (S2 mc t v r))
  (htl : ∀ w mc t v r, S2 mc t v r w -> Calls TryQ.prog 53 #[.pointer (some ⟨mc, 0, none⟩), .iface t v] w fun e w' => e = .returned (.agg (resC r.good 0 r.s)) /\ Below w.heap.size w w')
  (hlf : ∀ w mc t v r, S2 mc t v r w -> ∃ fn rv, (∀ w, (Go.method 543 t v "Left").run TryQ.prog w = .ok (fn, rv) w) /\ (∀ args w, (callFunc fn args).run TryQ.prog w = .ok (.enter fn args) w) /\ Calls TryQ.prog fn #[rv] w fun e w' => e = .returned (.int .i64 r.left) /\ Below w.heap.size w w')
  (hbk : ∀ w mc t v r, S2 mc t v r w -> Calls TryQ.prog 55 #[.pointer (some ⟨mc, 0, none⟩)] w fun e w' => e = .returned (.int .i64 r.back) /\ w' = w)
  (hst : ∀ w mc t v r, S2 mc t v r w -> Calls TryQ.prog 54 #[.pointer (some ⟨l, 0, none⟩), .agg (ordC src dst nonce x (g : Int) (p : Int) miner), .int .i64 r.left, .int .i64 r.back] w fun e w' => e = .returned (.int .i64 r.k) /\ S4 r w' /\ Kp W.heap.size w w')
  (hse : ∀ w r, S4 r w -> Calls TryQ.prog 56 #[.pointer (some ⟨l, 0, none⟩)] w fun e w' => e = .returned (.tuple #[]) /\ S5 r w' /\ Kp W.heap.size w w')
  (hS4 : ∀ r w w' rb c, S4 r w -> W.heap.size <= rb -> w.heap[rb]? = some (.cells c 34 (0, 0)) -> Pres [rb] [] w w' -> S4 r w')
  (hS5 : ∀ r w w' rb c, S5 r w -> W.heap.size <= rb -> w.heap[rb]? = some (.cells c 34 (0, 0)) -> Pres [rb] [] w w' -> S5 r w') :
  Calls TryQ.prog 33 #[.pointer (some ⟨l, 0, none⟩), .agg (ordC src dst nonce x (g : Int) (p : Int) miner)] W fun e w' => ∃ r : Rs, e = .returned (.tuple #[.agg (resC r.good r.k r.s), .nilIface]) /\ S5 r w' := by
 have hrs : Shut (∀ w, Below W.heap.size W w -> Calls TryQ.prog 48 #[.pointer (some ⟨l, 0, none⟩), .agg (ordC src dst nonce x (g : Int) (p : Int) miner)] w fun e w' => e = .returned (.int .i64 0) /\ Below w.heap.size w w') := hr
 have hts : Shut (∀ w, Below W.heap.size W w -> Calls TryQ.prog 49 #[.pointer (some ⟨l, 0, none⟩), .int .i64 src, wd (g * p)] w fun e w' => e = .returned (.tuple #[]) /\ S1 w' /\ Kp W.heap.size w w') := ht
 have hS1s : Shut (Stab S1) := hS1
 have hbs : Shut (∀ w mc, S1 w -> W.heap.size <= mc -> w.heap[mc]? = some (.cells (machCells l ⟨none, 0, 0⟩ 0 0) 165 (0, 0)) -> Calls TryQ.prog 52 #[.pointer (some ⟨mc, 0, none⟩), .pointer (some ⟨l, 0, none⟩), .agg (ordC src dst nonce x (g : Int) (p : Int) miner)] w fun e w' => ∃ t v r, e = .returned (.iface t v) /\ S2 mc t v r w' /\ Kp W.heap.size w w') := hb
 have hS2s : Shut (∀ mc t v r, Stab (S2 mc t v r)) := hS2
 have htls : Shut (∀ w mc t v r, S2 mc t v r w -> Calls TryQ.prog 53 #[.pointer (some ⟨mc, 0, none⟩), .iface t v] w fun e w' => e = .returned (.agg (resC r.good 0 r.s)) /\ Below w.heap.size w w') := htl
 have hlfs : Shut (∀ w mc t v r, S2 mc t v r w -> ∃ fn rv, (∀ w, (Go.method 543 t v "Left").run TryQ.prog w = .ok (fn, rv) w) /\ (∀ args w, (callFunc fn args).run TryQ.prog w = .ok (.enter fn args) w) /\ Calls TryQ.prog fn #[rv] w fun e w' => e = .returned (.int .i64 r.left) /\ Below w.heap.size w w') := hlf
 have hbks : Shut (∀ w mc t v r, S2 mc t v r w -> Calls TryQ.prog 55 #[.pointer (some ⟨mc, 0, none⟩)] w fun e w' => e = .returned (.int .i64 r.back) /\ w' = w) := hbk
 have hsts : Shut (∀ w mc t v r, S2 mc t v r w -> Calls TryQ.prog 54 #[.pointer (some ⟨l, 0, none⟩), .agg (ordC src dst nonce x (g : Int) (p : Int) miner), .int .i64 r.left, .int .i64 r.back] w fun e w' => e = .returned (.int .i64 r.k) /\ S4 r w' /\ Kp W.heap.size w w') := hst
 have hses : Shut (∀ w r, S4 r w -> Calls TryQ.prog 56 #[.pointer (some ⟨l, 0, none⟩)] w fun e w' => e = .returned (.tuple #[]) /\ S5 r w' /\ Kp W.heap.size w w') := hse
 have hS4s : Shut (∀ r w w' rb c, S4 r w -> W.heap.size <= rb -> w.heap[rb]? = some (.cells c 34 (0, 0)) -> Pres [rb] [] w w' -> S4 r w') := hS4
 have hS5s : Shut (∀ r w w' rb c, S5 r w -> W.heap.size <= rb -> w.heap[rb]? = some (.cells c 34 (0, 0)) -> Pres [rb] [] w w' -> S5 r w') := hS5
 clear hr ht hS1 hb hS2 htl hlf hbk hst hse hS4 hS5
 have hb0 : Below W.heap.size W ((W.alloc (.cells (ordC src dst nonce x (g : Int) (p : Int) miner) 43)).alloc (.cells #[.bool false, .int .i64 0, .int .i64 0, .slice none 0 0, .string ⟨#[]⟩] 34)) := ba.alloc (by simp) _
 have ho : ((W.alloc (.cells (ordC src dst nonce x (g : Int) (p : Int) miner) 43)).alloc (.cells #[.bool false, .int .i64 0, .int .i64 0, .slice none 0 0, .string ⟨#[]⟩] 34)).heap[W.heap.size]? = some (.cells (ordC src dst nonce x (g : Int) (p : Int) miner) 43 (0, 0)) := blk_alloc (blk_new W _)
 have hre : ((W.alloc (.cells (ordC src dst nonce x (g : Int) (p : Int) miner) 43)).alloc (.cells #[.bool false, .int .i64 0, .int .i64 0, .slice none 0 0, .string ⟨#[]⟩] 34)).heap[W.heap.size + 1]? = some (.cells #[.bool false, .int .i64 0, .int .i64 0, .slice none 0 0, .string ⟨#[]⟩] 34 (0, 0)) := by
  have := blk_new (W.alloc (.cells (ordC src dst nonce x (g : Int) (p : Int) miner) 43)) (.cells #[.bool false, .int .i64 0, .int .i64 0, .slice none 0 0, .string ⟨#[]⟩] 34)
  simpa using this
 have hr1 := hrs.out _ hb0
 go_enter TryQ.func33, Tryz.ntmps33
 unfold ordC at hr1 ⊢
 go_wp2_with fail
 refine hr1.mono ?_
 rintro e w1 ⟨rfl, hbn⟩
 clear hr1
 have hb1 := hb0.trans (hbn.mono hb0.size)
 have ho1 := (hbn.block _ (blk_lt ho)).trans ho
 have hr1 := (hbn.block _ (blk_lt hre)).trans hre
 go_wp2_with fail
 refine wp_region_held_drew (S := fun V => V.heap[W.heap.size]? = some (.cells (ordC src dst nonce x (g : Int) (p : Int) miner) 43 (0, 0)) /\ V.heap[W.heap.size + 1]? = some (.cells #[.bool false, .int .i64 0, .int .i64 0, .slice none 0 0, .string ⟨#[]⟩] 34 (0, 0))) (by kernel_rfl) ⟨ho1, hr1⟩ (fun hH => ?_)
 refine td (i := 0) (d := some 19) (v := .pointer (some ⟨l, 0, none⟩)) rfl rfl (fun V hW => ?_) hH ?_
 ·clear hW hH
  go_simp
 refine td (i := 1) (d := some 20) (v := .pointer (some ⟨W.heap.size, 0, none⟩)) rfl rfl (fun V hW => ?_) hH ?_
 ·clear hW hH
  go_simp
 refine td (i := 2) (d := some 21) (v := .int .i64 src) rfl rfl (fun V hW => ?_) hH ?_
 ·have k0 := blk_cell hW.1 0
  simp only [ordC, List.getElem?_toArray, List.getElem?_cons_zero] at k0
  clear hW hH
  go_simp
 refine td (i := 3) (d := some 22) (v := .pointer (some ⟨W.heap.size, 7, none⟩)) rfl rfl (fun V hW => ?_) hH ?_
 ·clear hW hH
  go_simp
 refine td (i := 4) (d := some 23) (v := .int .i64 (g : Int)) rfl rfl (fun V hW => ?_) hH ?_
 ·have k0 := blk_cell hW.1 7
  simp only [ordC, List.getElem?_toArray, List.getElem?_cons_zero, List.getElem?_cons_succ] at k0
  clear hW hH
  go_simp
 refine td (i := 5) (d := some 24) (v := .pointer (some ⟨W.heap.size, 8, none⟩)) rfl rfl (fun V hW => ?_) hH ?_
 ·clear hW hH
  go_simp
 refine td (i := 6) (d := some 25) (v := .int .i64 (p : Int)) rfl rfl (fun V hW => ?_) hH ?_
 ·have k0 := blk_cell hW.1 8
  simp only [ordC, List.getElem?_toArray, List.getElem?_cons_zero, List.getElem?_cons_succ] at k0
  clear hW hH
  go_simp
 refine r1 (i := 7) rfl (fun K hK => ?_)
 go_simp
 refine (coins50 g p hg hp _).mono ?_
 rintro e V1 ⟨rfl, hbn⟩
 go_wp2_with fail
 refine hK.out _ _ ⟨(hbn.block _ (blk_lt hH.1)).trans hH.1, (hbn.block _ (blk_lt hH.2)).trans hH.2⟩ (fun hH => ?_)
 clear hK K
 have hB1 : Below W.heap.size W V1 := hb1.trans (((Below.refl _ w1).drew.trans hbn).mono hb1.size)
 refine r1 (i := 8) rfl (fun K hK => ?_)
 go_simp
 refine (hts.out V1 hB1).mono ?_
 rintro e V2 ⟨rfl, h1, hk2⟩
 have h1s : Shut (S1 V2) := h1
 clear h1
 go_wp2_with fail
 refine hK.out _ _ ⟨hk2.2 _ _ _ (Nat.le_refl _) (.inl rfl) hH.1, hk2.2 _ _ _ (by omega) (.inr rfl) hH.2⟩ (fun hH => ?_)
 clear hK K
 refine wpAnyH_done (by kernel_rfl) ?_ _
 have hsz := blk_lt hH.2
 have hm1 := mach51 l V2
 go_wp2_with fail
 refine hm1.mono ?_
 rintro e V3 ⟨rfl, hmc, hb3⟩
 clear hm1
 have h13 := hS1s.out _ _ h1s.out hb3
 generalize hmcn : V2.heap.size = mc at hmc ⊢
 have hB3 := hbs.out V3 mc h13 (by omega) hmc
 have ho3 := (hb3.block _ (blk_lt hH.1)).trans hH.1
 have hr3 := (hb3.block _ (blk_lt hH.2)).trans hH.2
 clear hB1 hmc
 have hol := blk_lt ho3
 have c0 := blk_cell ho3 0
 have c1 := blk_cell ho3 1
 have c2 := blk_cell ho3 2
 have c3 := blk_cell ho3 3
 have c4 := blk_cell ho3 4
 have c5 := blk_cell ho3 5
 have c6 := blk_cell ho3 6
 have c7 := blk_cell ho3 7
 have c8 := blk_cell ho3 8
 have c9 := blk_cell ho3 9
 have c10 := blk_cell ho3 10
 simp only [ordC, List.getElem?_toArray, List.getElem?_cons_zero, List.getElem?_cons_succ] at c0 c1 c2 c3 c4 c5 c6 c7 c8 c9 c10
 unfold ordC at hB3
 go_wp2_with fail
 refine hB3.mono ?_
 rintro e V4 ⟨t, v, r, rfl, h2, hk4⟩
 have h2s : Shut (S2 mc t v r V4) := h2
 clear hB3 h2 c0 c1 c2 c3 c4 c5 c6 c7 c8 c9 c10
 have ho4 := hk4.2 _ _ _ (Nat.le_refl _) (.inl rfl) ho3
 have hr4 := hk4.2 _ _ _ (by omega) (.inr rfl) hr3
 have htl1 := htls.out V4 mc t v r h2s.out
 go_wp2_with fail
 refine htl1.mono ?_
 rintro e V5 ⟨rfl, hb5⟩
 clear htl1
 have ho5 := (hb5.block _ (blk_lt ho4)).trans ho4
 have hr5 := (hb5.block _ (blk_lt hr4)).trans hr4
 have h25 := hS2s.out mc t v r _ _ h2s.out hb5
 have hbx : Below V5.heap.size V5 (V5.alloc (.cells (resC r.good 0 r.s) 34)) := ba
 have hrr := blk_new V5 (.cells (resC r.good 0 r.s) 34)
 have ho6 := (hbx.block _ (blk_lt ho5)).trans ho5
 have hr6 := (hbx.block _ (blk_lt hr5)).trans hr5
 have h26 := hS2s.out mc t v r _ _ h25 hbx
 have h26s : Shut (S2 mc t v r (V5.alloc (.cells (resC r.good 0 r.s) 34))) := h26
 clear h26 h25
 unfold resC
 go_wp2_with fail
 change Code.wp _ _ _ _ (V5.alloc (.cells (resC r.good 0 r.s) 34))
 generalize V5.alloc (.cells (resC r.good 0 r.s) 34) = V6 at hrr ho6 hr6 h26s ⊢
 have hrbl : W.heap.size + 1 < V5.heap.size := blk_lt hr5
 generalize V5.heap.size = rb at hrr hrbl ⊢
 obtain ⟨fn, rv, hmt, hcf, hlc⟩ := hlfs.out V6.drew mc t v r (hS2s.out mc t v r _ _ h26s.out (Below.refl _ _).drew)
 refine wp_region_held_drew (S := fun V => V.heap[W.heap.size]? = some (.cells (ordC src dst nonce x (g : Int) (p : Int) miner) 43 (0, 0)) /\ V.heap[W.heap.size + 1]? = some (.cells #[.bool false, .int .i64 0, .int .i64 0, .slice none 0 0, .string ⟨#[]⟩] 34 (0, 0))) (by kernel_rfl) ⟨ho6, hr6⟩ (fun hH => ?_)
 refine td (i := 0) (d := some 37) (v := .pointer (some ⟨l, 0, none⟩)) rfl rfl (fun V hW => ?_) hH ?_
 ·clear hW hH
  go_simp
 refine td (i := 1) (d := some 38) (v := .agg (ordC src dst nonce x (g : Int) (p : Int) miner)) rfl rfl (fun V hW => ?_) hH ?_
 ·have k0 := blk_cell hW.1 0
  have k1 := blk_cell hW.1 1
  have k2 := blk_cell hW.1 2
  have k3 := blk_cell hW.1 3
  have k4 := blk_cell hW.1 4
  have k5 := blk_cell hW.1 5
  have k6 := blk_cell hW.1 6
  have k7 := blk_cell hW.1 7
  have k8 := blk_cell hW.1 8
  have k9 := blk_cell hW.1 9
  have k10 := blk_cell hW.1 10
  simp only [ordC, List.getElem?_toArray, List.getElem?_cons_zero, List.getElem?_cons_succ] at k0 k1 k2 k3 k4 k5 k6 k7 k8 k9 k10
  clear hW hH
  unfold ordC
  go_simp
 refine td (i := 2) (d := some 39) (v := .iface t v) rfl rfl (fun V hW => ?_) hH ?_
 ·clear hW hH
  go_simp
 refine td (i := 4) (d := some 41) (v := .pointer (some ⟨mc, 0, none⟩)) rfl rfl (fun V hW => ?_) hH ?_
 ·clear hW hH
  go_simp
 refine r1 (i := 3) rfl (fun K hK => ?_)
 go_simp
 refine hlc.mono ?_
 rintro e V7 ⟨rfl, hb7⟩
 clear hlc
 go_wp2_with fail
 refine hK.out _ _ ⟨(hb7.block _ (blk_lt hH.1)).trans hH.1, (hb7.block _ (blk_lt hH.2)).trans hH.2⟩ (fun hH => ?_)
 clear hK K hmt hcf
 have h27s : Shut (S2 mc t v r V7) := hS2s.out mc t v r _ _ (hS2s.out mc t v r _ _ h26s.out (Below.refl _ _).drew) hb7
 have hrr7 := (hb7.block rb (blk_lt hrr)).trans hrr
 refine r1 (i := 5) rfl (fun K hK => ?_)
 go_simp
 refine (hbks.out V7 mc t v r h27s.out).mono ?_
 rintro e V8 ⟨rfl, hV8⟩
 subst hV8
 go_wp2_with fail
 refine hK.out _ _ hH (fun hH => ?_)
 clear hK K
 refine r1 (i := 6) rfl (fun K hK => ?_)
 go_simp
 refine (hsts.out _ mc t v r h27s.out).mono ?_
 rintro e V9 ⟨rfl, h4, hk9⟩
 have h4s : Shut (S4 r V9) := h4
 clear h4
 go_wp2_with fail
 refine hK.out _ _ ⟨hk9.2 _ _ _ (Nat.le_refl _) (.inl rfl) hH.1, hk9.2 _ _ _ (by omega) (.inr rfl) hH.2⟩ (fun hH => ?_)
 clear hK K
 have hrr9 := hk9.2 _ _ _ (by omega) (.inr rfl) hrr7
 have e1 := blk_cell hrr9 1
 have z1 := blk_fz hrr9 1
 simp only [resC, List.getElem?_toArray, List.getElem?_cons_zero, List.getElem?_cons_succ] at e1
 refine r1 (i := 7) rfl (fun K hK => ?_)
 go_simp
 refine hK.out _ _ hH (fun hH => ?_)
 clear hK K
 refine r1 (i := 8) rfl (fun K hK => ?_)
 go_simp
 refine hK.out _ _ ⟨blk_set_other hH.1 (by omega), blk_set_other hH.2 (by omega)⟩ (fun hH => ?_)
 clear hK K
 refine wpAnyH_done (by kernel_rfl) ?_ _
 have hrrA : (V9.setCell ⟨rb, 1, none⟩ (.int .i64 r.k)).heap[rb]? = some (.cells (resC r.good r.k r.s) 34 (0, 0)) := blk_set (i := 1) hrr9
 have h4A : S4 r (V9.setCell ⟨rb, 1, none⟩ (.int .i64 r.k)) := hS4s.out _ _ _ _ _ h4s.out (by omega) hrr9 (Pres.setCell V9 rb 1 _)
 have hse1 := hses.out _ _ h4A
 generalize V9.setCell ⟨rb, 1, none⟩ (.int .i64 r.k) = VA at hH hrrA hse1 ⊢
 clear e1 z1 h4A
 go_wp2_with fail
 refine hse1.mono ?_
 rintro e VB ⟨rfl, h5, hkB⟩
 have h5s : Shut (S5 r VB) := h5
 clear h5 hse1
 have hrrB := hkB.2 _ _ _ (by omega) (.inr rfl) hrrA
 have hrB := hkB.2 _ _ _ (by omega) (.inr rfl) hH.2
 have hlB := blk_lt hrrB
 have e0 := blk_cell hrrB 0
 have y0 := blk_cell hrB 0
 have z0 := blk_fz hrB 0
 have e1 := blk_cell hrrB 1
 have y1 := blk_cell hrB 1
 have z1 := blk_fz hrB 1
 have e2 := blk_cell hrrB 2
 have y2 := blk_cell hrB 2
 have z2 := blk_fz hrB 2
 have e3 := blk_cell hrrB 3
 have y3 := blk_cell hrB 3
 have z3 := blk_fz hrB 3
 have e4 := blk_cell hrrB 4
 have y4 := blk_cell hrB 4
 have z4 := blk_fz hrB 4
 simp only [resC, List.getElem?_toArray, List.getElem?_cons_zero, List.getElem?_cons_succ] at e0 e1 e2 e3 e4 y0 y1 y2 y3 y4
 have hp5 : Pres [W.heap.size + 1] [] VB (((((VB.setCell ⟨W.heap.size + 1, 0, none⟩ (.bool r.good)).setCell ⟨W.heap.size + 1, 1, none⟩ (.int .i64 r.k)).setCell ⟨W.heap.size + 1, 2, none⟩ (.int .i64 0)).setCell ⟨W.heap.size + 1, 3, none⟩ (.slice none 0 0)).setCell ⟨W.heap.size + 1, 4, none⟩ (.string r.s)) := ((((Pres.setCell VB (W.heap.size + 1) 0 _).trans (Pres.setCell _ (W.heap.size + 1) 1 _)).trans (Pres.setCell _ (W.heap.size + 1) 2 _)).trans (Pres.setCell _ (W.heap.size + 1) 3 _)).trans (Pres.setCell _ (W.heap.size + 1) 4 _)
 have hr5 : (((((VB.setCell ⟨W.heap.size + 1, 0, none⟩ (.bool r.good)).setCell ⟨W.heap.size + 1, 1, none⟩ (.int .i64 r.k)).setCell ⟨W.heap.size + 1, 2, none⟩ (.int .i64 0)).setCell ⟨W.heap.size + 1, 3, none⟩ (.slice none 0 0)).setCell ⟨W.heap.size + 1, 4, none⟩ (.string r.s)).heap[W.heap.size + 1]? = some (.cells (resC r.good r.k r.s) 34 (0, 0)) := blk_set (i := 4) (blk_set (i := 3) (blk_set (i := 2) (blk_set (i := 1) (blk_set (i := 0) hrB))))
 have h5A := hS5s.out _ _ _ _ _ h5s.out (by omega) hrB hp5
 go_wp2
 generalize ((((VB.setCell ⟨W.heap.size + 1, 0, none⟩ (.bool r.good)).setCell ⟨W.heap.size + 1, 1, none⟩ (.int .i64 r.k)).setCell ⟨W.heap.size + 1, 2, none⟩ (.int .i64 0)).setCell ⟨W.heap.size + 1, 3, none⟩ (.slice none 0 0)).setCell ⟨W.heap.size + 1, 4, none⟩ (.string r.s) = VC at hr5 h5A ⊢
 clear y0 y1 y2 y3 y4
 have y0 := blk_cell hr5 0
 have y1 := blk_cell hr5 1
 have y2 := blk_cell hr5 2
 have y3 := blk_cell hr5 3
 have y4 := blk_cell hr5 4
 simp only [resC, List.getElem?_toArray, List.getElem?_cons_zero, List.getElem?_cons_succ] at y0 y1 y2 y3 y4
 simp [bodyPost, results, Tryz.results33, go_sem, y0, y1, y2, y3, y4]
 exact ⟨r, rfl, h5A⟩
end Go.Mark
set_option maxRecDepth 100000
set_option maxHeartbeats 8000000
namespace Go.Mark
open Go.RowKit Go.Proofs
variable [BaseB]
attribute [local go_sem] wd
theorem cell_set_other (w : World) (b i : Nat) (v : Value) (a : Addr) (h : a.block ≠ b) : (w.setCell ⟨b, i, none⟩ v).cell? a = w.cell? a := by
 simp only [World.cell?, heap_setCell_other w ⟨b, i, none⟩ a.block v h]
theorem do15 {W : World} {l pw x : Nat} {src dst nonce g p miner : Int} {S5 : Rs -> World -> Prop} (hpw : W.cell? ⟨pw, 0, none⟩ = some (.pointer (some ⟨l, 0, none⟩))) (hpl : pw < W.heap.size)
  (hc : ∀ w, Below W.heap.size W w -> Calls TryQ.prog 33 #[.pointer (some ⟨l, 0, none⟩), .agg (ordC src dst nonce x g p miner)] w fun e w' => ∃ r : Rs, e = .returned (.tuple #[.agg (resC r.good r.k r.s), .nilIface]) /\ S5 r w' /\ w.heap.size <= w'.heap.size /\ Kp W.heap.size w w' /\ w'.cell? ⟨pw, 0, none⟩ = W.cell? ⟨pw, 0, none⟩)
  (hS5 : ∀ r w w' rb c, S5 r w -> W.heap.size <= rb -> w.heap[rb]? = some (.cells c 34 (0, 0)) -> Pres [rb] [] w w' -> S5 r w') :
  Calls TryQ.prog 15 #[.pointer (some ⟨pw, 0, none⟩), .agg (ordC src dst nonce x g p miner)] W fun e w' => ∃ r : Rs, e = .returned (.tuple #[.agg (resC r.good r.k r.s), .nilIface]) /\ S5 r w' := by
 have hb0 : Below W.heap.size W ((W.alloc (.cells (ordC src dst nonce x g p miner) 43)).alloc (.cells #[.bool false, .int .i64 0, .int .i64 0, .slice none 0 0, .string ⟨#[]⟩] 34)) := ba.alloc (by simp) _
 have ho : ((W.alloc (.cells (ordC src dst nonce x g p miner) 43)).alloc (.cells #[.bool false, .int .i64 0, .int .i64 0, .slice none 0 0, .string ⟨#[]⟩] 34)).heap[W.heap.size]? = some (.cells (ordC src dst nonce x g p miner) 43 (0, 0)) := blk_alloc (blk_new W _)
 have hr1 : ((W.alloc (.cells (ordC src dst nonce x g p miner) 43)).alloc (.cells #[.bool false, .int .i64 0, .int .i64 0, .slice none 0 0, .string ⟨#[]⟩] 34)).heap[W.heap.size + 1]? = some (.cells #[.bool false, .int .i64 0, .int .i64 0, .slice none 0 0, .string ⟨#[]⟩] 34 (0, 0)) := by
  have := blk_new (W.alloc (.cells (ordC src dst nonce x g p miner) 43)) (.cells #[.bool false, .int .i64 0, .int .i64 0, .slice none 0 0, .string ⟨#[]⟩] 34)
  simpa using this
 have hpw1 := (hb0.cell (p := ⟨pw, 0, none⟩) hpl).trans hpw
 have hcs : Shut _ := hc _ hb0.drew
 clear hc
 go_enter TryQ.func15, Tryz.ntmps15
 unfold ordC
 go_wp2_with fail
 change Code.wp _ _ _ _ ((W.alloc (.cells (ordC src dst nonce x g p miner) 43)).alloc (.cells #[.bool false, .int .i64 0, .int .i64 0, .slice none 0 0, .string ⟨#[]⟩] 34))
 generalize ((W.alloc (.cells (ordC src dst nonce x g p miner) 43)).alloc (.cells #[.bool false, .int .i64 0, .int .i64 0, .slice none 0 0, .string ⟨#[]⟩] 34)) = w1 at hb0 ho hr1 hpw1 hcs ⊢
 refine wp_region_held_drew (S := fun V => V.cell? ⟨pw, 0, none⟩ = some (.pointer (some ⟨l, 0, none⟩)) /\ V.heap[W.heap.size]? = some (.cells (ordC src dst nonce x g p miner) 43 (0, 0))) (by kernel_rfl) ⟨hpw1, ho⟩ (fun hH => ?_)
 refine td (i := 0) (d := some 6) (v := .pointer (some ⟨pw, 0, none⟩)) rfl rfl (fun V hW => ?_) hH ?_
 ·clear hW hH
  go_simp
 refine td (i := 1) (d := some 7) (v := .pointer (some ⟨pw, 0, none⟩)) rfl rfl (fun V hW => ?_) hH ?_
 ·clear hW hH
  go_simp
 refine td (i := 2) (d := some 8) (v := .pointer (some ⟨pw, 0, none⟩)) rfl rfl (fun V hW => ?_) hH ?_
 ·clear hW hH
  go_simp
 refine td (i := 3) (d := some 9) (v := .pointer (some ⟨l, 0, none⟩)) rfl rfl (fun V hW => ?_) hH ?_
 ·have k0 := hW.1
  clear hW hH
  go_simp
 refine td (i := 4) (d := some 10) (v := .agg (ordC src dst nonce x g p miner)) rfl rfl (fun V hW => ?_) hH ?_
 ·have k0 := blk_cell hW.2 0
  have k1 := blk_cell hW.2 1
  have k2 := blk_cell hW.2 2
  have k3 := blk_cell hW.2 3
  have k4 := blk_cell hW.2 4
  have k5 := blk_cell hW.2 5
  have k6 := blk_cell hW.2 6
  have k7 := blk_cell hW.2 7
  have k8 := blk_cell hW.2 8
  have k9 := blk_cell hW.2 9
  have k10 := blk_cell hW.2 10
  simp only [ordC, List.getElem?_toArray, List.getElem?_cons_zero, List.getElem?_cons_succ] at k0 k1 k2 k3 k4 k5 k6 k7 k8 k9 k10
  clear hW hH
  unfold ordC
  go_simp
 refine r1 (i := 5) rfl (fun K hK => ?_)
 go_simp
 refine Calls.mono hcs.out ?_
 rintro e V1 ⟨r, rfl, h5, hb5, hk5, hpw5⟩
 have h5s : Shut (S5 r V1) := h5
 clear h5
 go_wp2_with fail
 refine hK.out _ _ ⟨hpw5.trans hpw, hk5.2 _ _ _ (Nat.le_refl _) (.inl rfl) hH.2⟩ (fun hH => ?_)
 clear hK K hcs
 have hr5 := hk5.2 _ _ _ (by omega) (.inr rfl) hr1
 have e0 := blk_cell hr5 0
 have z0 := blk_fz hr5 0
 have e1 := blk_cell hr5 1
 have z1 := blk_fz hr5 1
 have e2 := blk_cell hr5 2
 have z2 := blk_fz hr5 2
 have e3 := blk_cell hr5 3
 have z3 := blk_fz hr5 3
 have e4 := blk_cell hr5 4
 have z4 := blk_fz hr5 4
 simp only [List.getElem?_toArray, List.getElem?_cons_zero, List.getElem?_cons_succ] at e0 e1 e2 e3 e4
 refine td (i := 6) (d := some 12) (v := .agg (resC r.good r.k r.s)) rfl rfl (fun V hW => ?_) hH ?_
 ·clear hW hH
  go_simp
 refine td (i := 7) (d := some 13) (v := .nilIface) rfl rfl (fun V hW => ?_) hH ?_
 ·clear hW hH
  go_simp
 unfold resC
 refine r1 (i := 8) rfl (fun K hK => ?_)
 go_simp
 have hp5 : Pres [W.heap.size + 1] [] V1 (((((V1.setCell ⟨W.heap.size + 1, 0, none⟩ (.bool r.good)).setCell ⟨W.heap.size + 1, 1, none⟩ (.int .i64 r.k)).setCell ⟨W.heap.size + 1, 2, none⟩ (.int .i64 0)).setCell ⟨W.heap.size + 1, 3, none⟩ (.slice none 0 0)).setCell ⟨W.heap.size + 1, 4, none⟩ (.string r.s)) := ((((Pres.setCell V1 (W.heap.size + 1) 0 _).trans (Pres.setCell _ (W.heap.size + 1) 1 _)).trans (Pres.setCell _ (W.heap.size + 1) 2 _)).trans (Pres.setCell _ (W.heap.size + 1) 3 _)).trans (Pres.setCell _ (W.heap.size + 1) 4 _)
 have hr6 : (((((V1.setCell ⟨W.heap.size + 1, 0, none⟩ (.bool r.good)).setCell ⟨W.heap.size + 1, 1, none⟩ (.int .i64 r.k)).setCell ⟨W.heap.size + 1, 2, none⟩ (.int .i64 0)).setCell ⟨W.heap.size + 1, 3, none⟩ (.slice none 0 0)).setCell ⟨W.heap.size + 1, 4, none⟩ (.string r.s)).heap[W.heap.size + 1]? = some (.cells (resC r.good r.k r.s) 34 (0, 0)) := blk_set (i := 4) (blk_set (i := 3) (blk_set (i := 2) (blk_set (i := 1) (blk_set (i := 0) hr5))))
 have h5A := hS5 _ _ _ _ _ h5s.out (by omega) hr5 hp5
 have hpw6 : (((((V1.setCell ⟨W.heap.size + 1, 0, none⟩ (.bool r.good)).setCell ⟨W.heap.size + 1, 1, none⟩ (.int .i64 r.k)).setCell ⟨W.heap.size + 1, 2, none⟩ (.int .i64 0)).setCell ⟨W.heap.size + 1, 3, none⟩ (.slice none 0 0)).setCell ⟨W.heap.size + 1, 4, none⟩ (.string r.s)).cell? ⟨pw, 0, none⟩ = V1.cell? ⟨pw, 0, none⟩ := by
  have hne : pw ≠ W.heap.size + 1 := by omega
  rw [cell_set_other _ _ _ _ _ hne, cell_set_other _ _ _ _ _ hne, cell_set_other _ _ _ _ _ hne, cell_set_other _ _ _ _ _ hne, cell_set_other _ _ _ _ _ hne]
 have ho6 : (((((V1.setCell ⟨W.heap.size + 1, 0, none⟩ (.bool r.good)).setCell ⟨W.heap.size + 1, 1, none⟩ (.int .i64 r.k)).setCell ⟨W.heap.size + 1, 2, none⟩ (.int .i64 0)).setCell ⟨W.heap.size + 1, 3, none⟩ (.slice none 0 0)).setCell ⟨W.heap.size + 1, 4, none⟩ (.string r.s)).heap[W.heap.size]? = _ := hp5.obj hH.2 (by simp [Other]) (by simp)
 generalize ((((V1.setCell ⟨W.heap.size + 1, 0, none⟩ (.bool r.good)).setCell ⟨W.heap.size + 1, 1, none⟩ (.int .i64 r.k)).setCell ⟨W.heap.size + 1, 2, none⟩ (.int .i64 0)).setCell ⟨W.heap.size + 1, 3, none⟩ (.slice none 0 0)).setCell ⟨W.heap.size + 1, 4, none⟩ (.string r.s) = V2 at hp5 hr6 h5A hpw6 ho6 ⊢
 refine hK.out _ _ ⟨hpw6.trans hH.1, ho6⟩ (fun hH => ?_)
 clear hK K e0 e1 e2 e3 e4
 refine r1 (i := 9) rfl (fun K hK => ?_)
 go_simp
 refine hK.out _ _ hH (fun hH => ?_)
 clear hK K
 refine wpAnyH_done (by kernel_rfl) ?_ _
 have e0 := blk_cell hr6 0
 have e1 := blk_cell hr6 1
 have e2 := blk_cell hr6 2
 have e3 := blk_cell hr6 3
 have e4 := blk_cell hr6 4
 simp only [resC, List.getElem?_toArray, List.getElem?_cons_zero, List.getElem?_cons_succ] at e0 e1 e2 e3 e4
 go_wp2
 simp [bodyPost, results, Tryz.results15, go_sem, e0, e1, e2, e3, e4]
 exact ⟨r, rfl, h5A⟩
end Go.Mark
namespace Go.Mark
open Go.RowKit Go.Proofs
variable [BaseB]
structure Glob (W : World) (a d li : Addr) : Prop where
 lo : 4 < BaseB.b0 /\ a.block < BaseB.b0 /\ d.block < BaseB.b0 /\ li.block < BaseB.b0
 low : BaseB.b0 <= W.heap.size
 ng : W.cell? ⟨1, 0, none⟩ = some (.iface 407 (.pointer (some a)))
 dp : W.cell? ⟨0, 0, none⟩ = some (.iface 407 (.pointer (some d)))
 lt : W.cell? ⟨3, 0, none⟩ = some (.iface 407 (.pointer (some li)))
 et : W.cell? ⟨4, 0, none⟩ = some (.iface 355 (.agg #[.pointer (some ⟨11, 36, none⟩)]))
 oa : ∃ c t, W.heap[a.block]? = some (.cells c t (0, 0))
 od : ∃ c t, W.heap[d.block]? = some (.cells c t (0, 0))
 ol : ∃ c t, W.heap[li.block]? = some (.cells c t (0, 0))
 ad : a ≠ d
 al : a ≠ li
theorem cell_of_heap {W W' : World} {k : Nat} (h : W'.heap[k]? = W.heap[k]?) (i : Nat) : W'.cell? ⟨k, i, none⟩ = W.cell? ⟨k, i, none⟩ := by
 simp only [World.cell?, h]
theorem Glob.keep {W W' : World} {a d li : Addr} (h : Glob W a d li) (hs : W.heap.size <= W'.heap.size) (hk : ∀ k, k < BaseB.b0 -> W'.heap[k]? = W.heap[k]?) : Glob W' a d li :=
 ⟨h.lo, Nat.le_trans h.low hs, (cell_of_heap (hk 1 (by have := h.lo; omega)) 0).trans h.ng, (cell_of_heap (hk 0 (by have := h.lo; omega)) 0).trans h.dp, (cell_of_heap (hk 3 (by have := h.lo; omega)) 0).trans h.lt, (cell_of_heap (hk 4 h.lo.1) 0).trans h.et,
  let ⟨c, t, h1⟩ := h.oa; ⟨c, t, (hk _ h.lo.2.1).trans h1⟩, let ⟨c, t, h1⟩ := h.od; ⟨c, t, (hk _ h.lo.2.2.1).trans h1⟩, let ⟨c, t, h1⟩ := h.ol; ⟨c, t, (hk _ h.lo.2.2.2).trans h1⟩, h.ad, h.al⟩
theorem Glob.pres {W W' : World} {a d li : Addr} {B : List Nat} {T : List TypeId} (h : Glob W a d li) (hp : Pres B T W W') (hB : ∀ k ∈ B, BaseB.b0 <= k) : Glob W' a d li :=
 h.keep hp.size fun k hk => hp.floor hk (Nat.lt_of_lt_of_le hk h.low) (fun e => by have := hB k e; omega)
theorem Glob.below {W W' : World} {a d li : Addr} (h : Glob W a d li) (hb : Below W.heap.size W W') : Glob W' a d li := h.keep hb.size fun k hk => hb.block k (Nat.lt_of_lt_of_le hk h.low)
end Go.Mark
namespace Go.Mark
open Go.RowKit Go.Proofs
variable [BaseB]
def who (L : List (Int × Nat × Ac)) : List (Int × Nat) := L.map fun q => (q.1, q.2.1)
theorem who_setA {L : List (Int × Nat × Ac)} (b : Nat) (a : Ac) : who (setA L b a) = who L := by
 unfold who setA
 rw [List.map_map]
 refine List.map_congr_left fun q _ => ?_
 simp only [Function.comp]
 split
 ·rename_i e; rw [e]
 ·rfl
theorem who_mem {L L' : List (Int × Nat × Ac)} (h : who L' = who L) {q : Int × Nat × Ac} (hq : q ∈ L) : ∃ a, (q.1, q.2.1, a) ∈ L' := by
 have : (q.1, q.2.1) ∈ who L' := by rw [h]; exact List.mem_map.2 ⟨q, hq, rfl⟩
 obtain ⟨r, hr, e⟩ := List.mem_map.1 this
 simp only [Prod.mk.injEq] at e
 exact ⟨r.2.2, by rw [<- e.1, <- e.2]; exact hr⟩
theorem m_undoBal (v : Value) (w : World) : (Go.method 543 212 v "purser/ledger.undo").run TryQ.prog w = .ok (369, v) w := by kernel_rfl
theorem undo_bals {W : World} {l m : Nat} {dm : Dm} {cr : Int} {L : List (Int × Nat × Ac)} {J0 js : List Value} (h : LG W l m dm cr L (J0 ++ js)) (hJ : (J0 ++ js).length < 100000000) (bs : List Nat) (hjs : ∀ j ∈ js, ∃ z ∈ L, z.2.1 ∈ bs /\ ∃ x, x < M /\ j = jBal z.2.1 x) :
  Calls TryQ.prog 223 #[.pointer (some ⟨l, 0, none⟩), .int .i64 (J0.length : Int)] W fun e w' => e = .returned (.tuple #[]) /\ ∃ L', LG w' l m dm cr L' J0 /\ who L' = who L /\ Pres (l :: bs) [] W w' := by
 have hu := undo223 (W := W) (l := l) (m := m) (dm := dm.b) (cr := cr) (J := J0 ++ js) J0.length (by simp) hJ
  (fun _ w => ∃ L', LG w l m dm cr L' (J0 ++ js) /\ who L' = who L /\ Pres bs [] W w)
  (fun n w ⟨L', h1, _⟩ => h1.lj)
  (fun n w hn hlt ⟨L', h1, h2, h3⟩ => by
   obtain ⟨j, hj⟩ : ∃ j, js[n - J0.length]? = some j := ⟨_, List.getElem?_eq_getElem (by simp at hlt; omega)⟩
   obtain ⟨z, hz, hzb, x, hx, rfl⟩ := hjs j (List.mem_of_getElem? hj)
   obtain ⟨a, ha⟩ := who_mem h2 hz
   refine ⟨212, .agg #[.pointer (some ⟨z.2.1, 0, none⟩), .int .u64 (lim x 0), .int .u64 (lim x 1), .int .u64 (lim x 2), .int .u64 (lim x 3)], 369, ?_, m_undoBal _, TryQ.call369, ?_⟩
   ·rw [List.getElem?_append_right hn, hj]
    rfl
   ·refine (undoBal369 h1 ha x hx).mono ?_
    rintro e w' ⟨rfl, h4, h5⟩
    exact ⟨rfl, _, h4, (who_setA _ _).trans h2, h3.trans (h5.mono (fun k _ hk => by simp at hk; rw [hk]; exact hzb) (fun t ht => ht))⟩)
  ⟨L, h, rfl, Pres.refl _ _ _⟩
 refine hu.mono ?_
 rintro e w' ⟨rfl, w1, ⟨L', h1, h2, h3⟩, hlj, hp⟩
 rw [List.take_left] at hlj
 have hol : ∀ k ∈ [l], ∀ o, w1.heap[k]? = some o -> ∃ c t f, o = .cells c t f /\ t ≠ 136 := fun k hk o ho => by
  obtain rfl : k = l := by simpa using hk
  obtain ⟨jv, hl, _⟩ := h1.lj.ex
  rw [ho] at hl
  cases hl
  exact ⟨_, _, _, rfl, by decide⟩
 exact ⟨rfl, L', h1.pres hlj hp (by simp) hol, h2, (h3.mono (fun k _ hk => List.mem_cons_of_mem _ hk) (fun t ht => ht)).trans (hp.mono (fun k _ hk => by simp at hk; simp [hk]) (fun t ht => ht))⟩
end Go.Mark
