import Derived.Test.YtbephahokhnccaaGreatDoorXE6toK58
set_option linter.unusedSectionVars false
set_option maxRecDepth 100000
set_option maxHeartbeats 8000000
namespace Go.Mark
open Go.RowKit Go.Proofs Go.Lift
variable [BaseB]
attribute [local go_sem] wd
noncomputable def ops12 : Array Oper := match Tryz.f12.body with
 | some (.seq _ (.seq (.region _ o _) _)) => o
 | _ => #[]
noncomputable def c12 : Code := match Tryz.f12.body with
 | some (.seq _ (.seq _ c)) => c
 | _ => .skip
theorem oko12 : okOps Tryz.prog ops12 = true := by kernel_rfl
theorem okc12 : okCode Tryz.prog c12 = true := by kernel_rfl
theorem eqw_same (n : Nat) (h : n < M) (W : World) : (Op.equalIn 10000 41 (wd n) (wd n)).run TryQ.prog W = .ok true W := by
 have := run_eqw n n h h W
 rw [decide_eq_true rfl] at this
 exact this
theorem of21 (n : Nat) (hn : n < 1000000000) (W : World) : Calls TryQ.prog 21 #[.int .i64 (n : Int)] W fun e w' => e = .returned (wd n) /\ Below W.heap.size W w' := by
 rw [wd_small n (by omega)]
 have i1 : IntKind.u64.wrap (n : Int) = (n : Int) := IntWalk.u64_in _ (by omega)
 go_enter TryQ.func21, Tryz.ntmps21
 go_wp2
 simp [bodyPost, results, Tryz.results21, go_sem]
 exact ba
theorem doKnown15 {W : World} {l m dmb p1 p2 pw : Nat} {cr : Int} (h : Kn l m ⟨dmb, []⟩ cr p1 p2 30000 0 0 10 W) (hne : p1 ≠ p2) (hpo : W.heap[pw]? = some (.cells #[.pointer (some ⟨l, 0, none⟩)] 87 (0, 0))) :
  Calls TryQ.prog 15 #[.pointer (some ⟨pw, 0, none⟩), .agg (ordC 1 2 0 7 ((25000 : Nat) : Int) ((1 : Nat) : Int) 3)] W fun e w' => ∃ r : Rs, e = .returned (.tuple #[.agg (resC r.good r.k r.s), .nilIface]) /\ r = rKn /\ Kn3 l m ⟨dmb, []⟩ cr p1 p2 w' /\ Pres [l, p1, p2, m, dmb] [262] W w' := by
 have hpw : W.cell? ⟨pw, 0, none⟩ = some (.pointer (some ⟨l, 0, none⟩)) := by rw [blk_cell hpo 0]; rfl
 refine do15 (S5 := fun r w => r = rKn /\ Kn3 l m ⟨dmb, []⟩ cr p1 p2 w /\ Pres [l, p1, p2, m, dmb] [262] W w) hpw (blk_lt hpo) (fun w hb => ?_) (fun r w w' rb c h5 hrb hc hpp => ?_)
 ·refine (doKnown33 (h.below hb) hne).mono ?_
  rintro e w' ⟨r, rfl, h1, h2, h3⟩
  obtain ⟨J0, a1, a2, hL, _⟩ := h
  have hln := hL.cell0.1
  have hn1 : p1 < W.heap.size := blk_lt (hL.acc (1, p1, a1) (by simp))
  have hn2 : p2 < W.heap.size := blk_lt (hL.acc (2, p2, a2) (by simp))
  have hmn := hL.map.lt
  have hdn : dmb < W.heap.size := hL.dmap.lt
  refine ⟨r, rfl, ⟨h1, h2, (Pres.of_below hb _ _).trans h3⟩, h3.size, Kp.pres h3 (fun k hk => by simp at hk; omega) (by decide) (by decide), ?_⟩
  have how := (hb.block _ (blk_lt hpo)).trans hpo
  obtain ⟨jv, hl, _⟩ := hL.lj.ex
  obtain ⟨em, cm, hm⟩ : ∃ es c, W.heap[m]? = some (.map es c) := let ⟨es, c, h1, _⟩ := hL.map; ⟨es, c, h1⟩
  obtain ⟨cd', hd⟩ := dml_nil hL.dmap
  have ho' : w'.heap[pw]? = _ := h3.obj how (by show (87 : Nat) ∉ [262]; decide) (by
   simp only [List.mem_cons, List.not_mem_nil, or_false, not_or]
   exact ⟨ty_ne hpo hl (by decide), ty_ne hpo (hL.acc (1, p1, a1) (by simp)) (by decide), ty_ne hpo (hL.acc (2, p2, a2) (by simp)) (by decide), obj_ne hpo hm (fun e => by cases e), obj_ne hpo hd (fun e => by cases e)⟩)
  simp only [World.cell?, ho', hpo]
 ·obtain ⟨hr, ⟨J', b1, b2, p3, b3, hL3, hQ⟩, hpr⟩ := h5
  exact ⟨hr, ⟨_, _, _, _, _, hL3.keep1 hpp hc (by simp) (by decide), hQ⟩, hpr.thenx (hpp.mono (fun k _ hk => hk) (fun t ht => by cases ht)) (fun k hk => by simp at hk; subst hk; exact .inr hrb)⟩
structure Bz (u v : World) : Prop extends Below BaseB.b0 u v where
 kz : ∀ (b : Nat) (e : TypeId), u.heap[b]? = some (.cells #[] e) -> ∃ c f, v.heap[b]? = some (.cells c e f)
theorem Bz.grow {u v v' : World} (h : Bz u v) (hb0 : BaseB.b0 <= u.heap.size) (k : Below v.heap.size v v') : Bz u v' :=
 ⟨h.toBelow.trans ⟨k.os, k.tape, k.output, k.size, fun b hb => k.block b (by have := h.size; omega)⟩, fun b e he => let ⟨c, f, h1⟩ := h.kz b e he; ⟨c, f, (k.block b (Array.getElem?_eq_some_iff.1 h1).1).trans h1⟩⟩
theorem Bz.drew {u v : World} (h : Bz u v) : Bz u v.drew := ⟨h.toBelow.drew, h.kz⟩
theorem Pres.bz {B : List Nat} {T : List TypeId} {u v : World} (h : Pres B T u v) (hf : Below BaseB.b0 u v) (hn : ∀ b ∈ B, ∀ e, u.heap[b]? ≠ some (.cells #[] e)) : Bz u v := by
 refine ⟨hf, fun b e he => ?_⟩
 rcases h.block b (Array.getElem?_eq_some_iff.1 he).1 (fun hb => hn b hb e he) with h1 | ⟨t, c, c', _, _, h1, h2⟩
 ·exact ⟨_, _, h1.trans he⟩
 ·rw [he] at h1
  cases h1
  exact ⟨_, _, h2⟩
theorem row_ne {w : World} {b : Nat} {c : Array Value} {t : TypeId} (h : w.heap[b]? = some (.cells c t (0, 0))) (hc : 0 < c.size) (e : TypeId) : w.heap[b]? ≠ some (.cells #[] e) := fun h' => by
 rw [h] at h'
 cases h'
 simp at hc
theorem map_ne {w : World} {b : Nat} {es c} (h : w.heap[b]? = some (.map es c)) (e : TypeId) : w.heap[b]? ≠ some (.cells #[] e) := fun h' => by
 rw [h] at h'
 cases h'
theorem rest12 {u : World} {l m dmb p1 p2 pw : Nat} {cr : Int} (x7 x8 x9 x10 : Value) (h : Kn l m ⟨dmb, []⟩ cr p1 p2 30000 0 0 10 u) (hne : p1 ≠ p2) (hpo : u.heap[pw]? = some (.cells #[.pointer (some ⟨l, 0, none⟩)] 87 (0, 0))) (hb0 : BaseB.b0 <= u.heap.size) (Ψ : Value -> World -> Prop) (hΨ : ∀ v', Bz u v' -> Ψ (.bool true) v') :
  wpOps TryQ.prog ops12 (fun e a' v' => e = .normal /\ c12.wp TryQ.prog (bodyPost TryQ.prog Tryz.f12 fun e v' => ∃ val, e = .returned val /\ Ψ val v') a' v') [5, 6, 7, 8, 9] ⟨#[.bool false, undef, undef, undef, undef, undef, undef, x7, x8, x9, x10, .tuple #[.pointer (some ⟨pw, 0, none⟩), .nilIface], undef, undef, undef, undef, undef, undef, undef, undef, undef, undef, undef, undef, undef, undef, undef, undef, undef, undef, undef, undef, undef, undef, undef, undef, undef, undef, undef, undef] ++ #[undef, undef, undef, undef, undef, undef, undef, undef, undef, undef, undef, undef, undef, undef, undef, undef, undef, undef, undef, undef, undef, undef, undef, undef, undef, undef, undef, undef, undef, undef, undef, undef, undef, undef, undef, undef], []⟩ u := by
 simp only [List.append_toArray, List.cons_append, List.nil_append]
 obtain ⟨fn, hfn⟩ : ∃ fn, fn = Tryz.f12 := ⟨_, rfl⟩
 have hres : fn.results = #[ResultVar.tmp 0] := by rw [hfn]; exact Tryz.results12
 rw [<- hfn]
 clear hfn
 obtain ⟨lo, hlo⟩ : ∃ l, l = ops12.toList.drop 5 := ⟨_, rfl⟩
 have hlo' := hlo
 simp only [ops12, Tryz.f12, List.drop_succ_cons, List.drop_zero] at hlo'
 refine wpOps_rest lo 5 5 (by rw [hlo']; rfl) (fun j => by rw [hlo]; simp) ?_
 rw [hlo']
 dsimp only [c12, ops12, Tryz.f12]
 clear hlo' hlo lo
 have hof : Calls TryQ.prog 21 #[.int .i64 7] u _ := of21 7 (by decide) u
 go_wp2_with fail
 refine hof.mono ?_
 rintro e w1 ⟨rfl, hb1⟩
 clear hof
 have hdo := doKnown15 (h.below hb1) hne ((hb1.block _ (blk_lt hpo)).trans hpo)
 unfold ordC at hdo
 have e25 : ((25000 : Nat) : Int) = 25000 := rfl
 have e1 : ((1 : Nat) : Int) = 1 := rfl
 rw [e25, e1] at hdo
 unfold wd
 go_wp2_with fail
 refine hdo.mono ?_
 rintro e w2 ⟨r, rfl, rfl, hK3, hp2⟩
 clear hdo
 have hrc : resC rKn.good rKn.k rKn.s = #[.bool true, .int .i64 21000, .int .i64 0, .slice none 0 0, .string ⟨#[]⟩] := rfl
 rw [hrc]
 clear hrc e25 e1
 have hb3 : Below w2.heap.size w2 (w2.alloc (.cells #[.bool true, .int .i64 21000, .int .i64 0, .slice none 0 0, .string ⟨#[]⟩] 34)) := ba
 have hr3 := blk_new w2 (.cells #[.bool true, .int .i64 21000, .int .i64 0, .slice none 0 0, .string ⟨#[]⟩] 34)
 obtain ⟨J9, b1, b2, p3, b3, hL9, hQ9⟩ := hK3
 have hL9b := hL9.below hb3
 have hK3b : Kn3 l m ⟨dmb, []⟩ cr p1 p2 (w2.alloc (.cells #[.bool true, .int .i64 21000, .int .i64 0, .slice none 0 0, .string ⟨#[]⟩] 34)) := ⟨J9, b1, b2, p3, b3, hL9b, hQ9⟩
 have hpo2 : w2.heap[pw]? = some (.cells #[.pointer (some ⟨l, 0, none⟩)] 87 (0, 0)) := by
  obtain ⟨J0, a1, a2, hL, _⟩ := h
  have hpo1 := (hb1.block _ (blk_lt hpo)).trans hpo
  have hLb := hL.below hb1
  obtain ⟨jv, hl, _⟩ := hLb.lj.ex
  obtain ⟨em, cm, hm⟩ : ∃ es c, w1.heap[m]? = some (.map es c) := let ⟨es, c, h1, _⟩ := hLb.map; ⟨es, c, h1⟩
  obtain ⟨cd', hd⟩ := dml_nil hLb.dmap
  refine hp2.obj hpo1 (by show (87 : Nat) ∉ [262]; decide) ?_
  simp only [List.mem_cons, List.not_mem_nil, or_false, not_or]
  exact ⟨ty_ne hpo1 hl (by decide), ty_ne hpo1 (hLb.acc (1, p1, a1) (by simp)) (by decide), ty_ne hpo1 (hLb.acc (2, p2, a2) (by simp)) (by decide), obj_ne hpo1 hm (fun e => by cases e), obj_ne hpo1 hd (fun e => by cases e)⟩
 have hac := accKnown hK3b (by rw [blk_cell ((hb3.block _ (blk_lt hpo2)).trans hpo2) 0]; rfl)
 have hfl : Bz u w2 := by
  obtain ⟨J0, a1, a2, hL, _⟩ := h
  have hLb := hL.below hb1
  have e1 : Below BaseB.b0 u w1 := ⟨hb1.os, hb1.tape, hb1.output, hb1.size, fun k hk => hb1.block k (by omega)⟩
  have e2 := hp2.low (fun k hk => by
   have h1 := (hL.lo (1, p1, a1) (by simp)).1
   have h2 := (hL.lo (2, p2, a2) (by simp)).1
   have h3 := hL.mlo
   have h4 := hL.lj.lo
   simp only [List.mem_cons, List.not_mem_nil, or_false] at hk
   simp only at h1 h2 h3
   omega) (Nat.le_trans hb0 hb1.size)
  have e3 := hp2.bz e2 (fun b hb => by
   obtain ⟨jv, hl, _⟩ := hLb.lj.ex
   obtain ⟨em, cm, hm⟩ : ∃ es c, w1.heap[m]? = some (.map es c) := let ⟨es, c, h1, _⟩ := hLb.map; ⟨es, c, h1⟩
   obtain ⟨cd', hd⟩ := dml_nil hLb.dmap
   simp only [List.mem_cons, List.not_mem_nil, or_false] at hb
   rcases hb with rfl | rfl | rfl | rfl | rfl
   ·exact row_ne hl (by simp)
   ·exact row_ne (hLb.acc (1, b, a1) (by simp)) (by simp [acCells])
   ·exact row_ne (hLb.acc (2, b, a2) (by simp)) (by simp [acCells])
   ·exact map_ne hm
   ·exact map_ne hd)
  exact ⟨e1.trans e2, fun b e he => e3.kz b e ((hb1.block b (Array.getElem?_eq_some_iff.1 he).1).trans he)⟩
 clear h hp2 hK3b hL9b hL9 hpo hb1
 go_wp2_with fail
 change Calls _ _ _ (w2.alloc (.cells #[.bool true, .int .i64 21000, .int .i64 0, .slice none 0 0, .string ⟨#[]⟩] 34)) _
 generalize hw3 : w2.alloc (.cells #[.bool true, .int .i64 21000, .int .i64 0, .slice none 0 0, .string ⟨#[]⟩] 34) = w3 at hb3 hr3 hac ⊢
 refine hac.mono ?_
 rintro e w4 ⟨g, cap, cur, rfl, hb4, hg, hcu, hcn, hcap⟩
 clear hac
 have hr4 := (hb4.block _ (blk_lt hr3)).trans hr3
 have hrl := blk_lt hr4
 generalize w2.heap.size = rb at hr4 hrl ⊢
 have hfl4 : Bz u w4 := (hfl.grow hb0 hb3).grow hb0 hb4
 have hlow4 : BaseB.b0 <= w4.heap.size := Nat.le_trans hb0 hfl4.size
 clear hr3 hb3 hb4 hfl hw3
 have hgl := blk_lt hg
 go_wp2_with fail
 refine wp_region_held_drew (S := fun V => V.heap[rb]? = some (.cells #[.bool true, .int .i64 21000, .int .i64 0, .slice none 0 0, .string ⟨#[]⟩] 34 (0, 0)) /\ V.heap[g]? = some (.cells cur 52 (0, 0)) /\ Bz u V) (by kernel_rfl) ⟨hr4, hg, hfl4.drew⟩ (fun hH => ?_)
 refine td (i := 0) (d := some 29) (v := .nilIface) rfl rfl (fun V hW => ?_) hH ?_
 ·clear hW hH
  go_simp
 refine td (i := 1) (d := some 30) (v := .bool true) rfl rfl (fun V hW => ?_) hH ?_
 ·clear hW hH
  go_simp
 refine td (i := 2) (d := some 31) (v := .bool true) rfl rfl (fun V hW => ?_) hH ?_
 ·clear hW hH
  go_simp
 refine td (i := 3) (d := some 32) (v := .pointer (some ⟨rb, 0, none⟩)) rfl rfl (fun V hW => ?_) hH ?_
 ·clear hW hH
  go_simp
 refine td (i := 4) (d := some 33) (v := .bool true) rfl rfl (fun V hW => ?_) hH ?_
 ·have k0 := blk_cell hW.1 0
  simp only [List.getElem?_toArray, List.getElem?_cons_zero] at k0
  clear hW hH
  go_simp
 refine td (i := 5) (d := some 34) (v := .bool true) rfl rfl (fun V hW => ?_) hH ?_
 ·clear hW hH
  go_simp
 refine td (i := 6) (d := some 35) (v := .bool true) rfl rfl (fun V hW => ?_) hH ?_
 ·clear hW hH
  go_simp
 refine td (i := 7) (d := some 36) (v := .pointer (some ⟨rb, 1, none⟩)) rfl rfl (fun V hW => ?_) hH ?_
 ·clear hW hH
  go_simp
 refine td (i := 8) (d := some 37) (v := .int .i64 21000) rfl rfl (fun V hW => ?_) hH ?_
 ·have k0 := blk_cell hW.1 1
  simp only [List.getElem?_toArray, List.getElem?_cons_zero, List.getElem?_cons_succ] at k0
  clear hW hH
  go_simp
 refine td (i := 9) (d := some 38) (v := .bool true) rfl rfl (fun V hW => ?_) hH ?_
 ·clear hW hH
  go_simp
 refine td (i := 10) (d := some 39) (v := .bool true) rfl rfl (fun V hW => ?_) hH ?_
 ·clear hW hH
  go_simp
 refine td (i := 11) (d := some 40) (v := .bool true) rfl rfl (fun V hW => ?_) hH ?_
 ·clear hW hH
  go_simp
 refine td (i := 12) (d := some 41) (v := .slice (some ⟨g, 0, none⟩) 3 cap) rfl rfl (fun V hW => ?_) hH ?_
 ·clear hW hH
  go_simp
 refine td (i := 13) (d := some 42) (v := .int .i64 3) rfl rfl (fun V hW => ?_) hH ?_
 ·clear hW hH
  go_simp
 refine td (i := 14) (d := some 43) (v := .bool true) rfl rfl (fun V hW => ?_) hH ?_
 ·clear hW hH
  go_simp
 refine td (i := 15) (d := some 44) (v := .bool true) rfl rfl (fun V hW => ?_) hH ?_
 ·clear hW hH
  go_simp
 refine td (i := 16) (d := some 45) (v := .bool true) rfl rfl (fun V hW => ?_) hH ?_
 ·clear hW hH
  go_simp
 refine td (i := 17) (d := some 46) (v := .slice (some ⟨g, 0, none⟩) 3 cap) rfl rfl (fun V hW => ?_) hH ?_
 ·clear hW hH
  go_simp
 refine td (i := 18) (d := some 47) (v := .pointer (some ⟨g, 0, none⟩)) rfl rfl (fun V hW => ?_) hH ?_
 ·clear hW hH
  go_simp
 refine td (i := 19) (d := some 48) (v := .pointer (some ⟨g, 1, none⟩)) rfl rfl (fun V hW => ?_) hH ?_
 ·clear hW hH
  go_simp
 refine td (i := 20) (d := some 49) (v := wd 8993) rfl rfl (fun V hW => ?_) hH ?_
 ·have k0 := (blk_cell hW.2.1 (1 + 0)).trans (hcu 0 (by omega)).1
  have k1 := (blk_cell hW.2.1 (1 + 1)).trans (hcu 1 (by omega)).1
  have k2 := (blk_cell hW.2.1 (1 + 2)).trans (hcu 2 (by omega)).1
  have k3 := (blk_cell hW.2.1 (1 + 3)).trans (hcu 3 (by omega)).1
  simp only [Nat.reduceAdd, Nat.add_zero] at k0 k1 k2 k3
  clear hW hH hcu
  go_simp
 refine r1 (i := 21) rfl (fun K hK => ?_)
 go_simp
 refine Calls.mono (show Calls TryQ.prog 21 #[.int .i64 8993] _ _ from of21 8993 (by decide) _) ?_
 rintro e V1 ⟨rfl, hbn⟩
 go_wp2_with fail
 refine hK.out _ _ ⟨(hbn.block _ (blk_lt hH.1)).trans hH.1, (hbn.block _ (blk_lt hH.2.1)).trans hH.2.1, hH.2.2.grow hb0 hbn⟩ (fun hH => ?_)
 clear hK K hbn
 refine td (i := 22) (d := some 51) (v := .bool true) rfl rfl (fun V hW => ?_) hH ?_
 ·have heq := eqw_same 8993 (by decide) V
  clear hW hH hcu
  unfold wd at heq
  (try unfold wd)
  go_simp
 refine td (i := 23) (d := some 52) (v := .bool true) rfl rfl (fun V hW => ?_) hH ?_
 ·clear hW hH
  go_simp
 refine td (i := 24) (d := some 53) (v := .bool true) rfl rfl (fun V hW => ?_) hH ?_
 ·clear hW hH
  go_simp
 refine td (i := 25) (d := some 54) (v := .slice (some ⟨g, 0, none⟩) 3 cap) rfl rfl (fun V hW => ?_) hH ?_
 ·clear hW hH
  go_simp
 refine td (i := 26) (d := some 55) (v := .pointer (some ⟨g, 8, none⟩)) rfl rfl (fun V hW => ?_) hH ?_
 ·clear hW hH
  go_simp
 refine td (i := 27) (d := some 56) (v := .pointer (some ⟨g, 9, none⟩)) rfl rfl (fun V hW => ?_) hH ?_
 ·clear hW hH
  go_simp
 refine td (i := 28) (d := some 57) (v := wd 7) rfl rfl (fun V hW => ?_) hH ?_
 ·have k0 := (blk_cell hW.2.1 (9 + 0)).trans (hcu 0 (by omega)).2.1
  have k1 := (blk_cell hW.2.1 (9 + 1)).trans (hcu 1 (by omega)).2.1
  have k2 := (blk_cell hW.2.1 (9 + 2)).trans (hcu 2 (by omega)).2.1
  have k3 := (blk_cell hW.2.1 (9 + 3)).trans (hcu 3 (by omega)).2.1
  simp only [Nat.reduceAdd, Nat.add_zero] at k0 k1 k2 k3
  clear hW hH hcu
  go_simp
 refine r1 (i := 29) rfl (fun K hK => ?_)
 go_simp
 refine Calls.mono (show Calls TryQ.prog 21 #[.int .i64 7] _ _ from of21 7 (by decide) _) ?_
 rintro e V1 ⟨rfl, hbn⟩
 go_wp2_with fail
 refine hK.out _ _ ⟨(hbn.block _ (blk_lt hH.1)).trans hH.1, (hbn.block _ (blk_lt hH.2.1)).trans hH.2.1, hH.2.2.grow hb0 hbn⟩ (fun hH => ?_)
 clear hK K hbn
 refine td (i := 30) (d := some 59) (v := .bool true) rfl rfl (fun V hW => ?_) hH ?_
 ·have heq := eqw_same 7 (by decide) V
  clear hW hH hcu
  unfold wd at heq
  (try unfold wd)
  go_simp
 refine td (i := 31) (d := some 60) (v := .bool true) rfl rfl (fun V hW => ?_) hH ?_
 ·clear hW hH
  go_simp
 refine td (i := 32) (d := some 61) (v := .bool true) rfl rfl (fun V hW => ?_) hH ?_
 ·clear hW hH
  go_simp
 refine td (i := 33) (d := some 62) (v := .slice (some ⟨g, 0, none⟩) 3 cap) rfl rfl (fun V hW => ?_) hH ?_
 ·clear hW hH
  go_simp
 refine td (i := 34) (d := some 63) (v := .pointer (some ⟨g, 16, none⟩)) rfl rfl (fun V hW => ?_) hH ?_
 ·clear hW hH
  go_simp
 refine td (i := 35) (d := some 64) (v := .pointer (some ⟨g, 17, none⟩)) rfl rfl (fun V hW => ?_) hH ?_
 ·clear hW hH
  go_simp
 refine td (i := 36) (d := some 65) (v := wd 21000) rfl rfl (fun V hW => ?_) hH ?_
 ·have k0 := (blk_cell hW.2.1 (17 + 0)).trans (hcu 0 (by omega)).2.2
  have k1 := (blk_cell hW.2.1 (17 + 1)).trans (hcu 1 (by omega)).2.2
  have k2 := (blk_cell hW.2.1 (17 + 2)).trans (hcu 2 (by omega)).2.2
  have k3 := (blk_cell hW.2.1 (17 + 3)).trans (hcu 3 (by omega)).2.2
  simp only [Nat.reduceAdd, Nat.add_zero] at k0 k1 k2 k3
  clear hW hH hcu
  go_simp
 refine r1 (i := 37) rfl (fun K hK => ?_)
 go_simp
 refine Calls.mono (show Calls TryQ.prog 21 #[.int .i64 21000] _ _ from of21 21000 (by decide) _) ?_
 rintro e V1 ⟨rfl, hbn⟩
 go_wp2_with fail
 refine hK.out _ _ ⟨(hbn.block _ (blk_lt hH.1)).trans hH.1, (hbn.block _ (blk_lt hH.2.1)).trans hH.2.1, hH.2.2.grow hb0 hbn⟩ (fun hH => ?_)
 clear hK K hbn
 refine td (i := 38) (d := some 67) (v := .bool true) rfl rfl (fun V hW => ?_) hH ?_
 ·have heq := eqw_same 21000 (by decide) V
  clear hW hH hcu
  unfold wd at heq
  (try unfold wd)
  go_simp
 refine td (i := 39) (d := some 68) (v := .bool true) rfl rfl (fun V hW => ?_) hH ?_
 ·clear hW hH
  go_simp
 refine td (i := 40) (d := some 69) (v := .bool true) rfl rfl (fun V hW => ?_) hH ?_
 ·clear hW hH
  go_simp
 refine td (i := 41) (d := some 70) (v := .slice (some ⟨g, 0, none⟩) 3 cap) rfl rfl (fun V hW => ?_) hH ?_
 ·clear hW hH
  go_simp
 refine td (i := 42) (d := some 71) (v := .pointer (some ⟨g, 0, none⟩)) rfl rfl (fun V hW => ?_) hH ?_
 ·clear hW hH
  go_simp
 refine td (i := 43) (d := some 72) (v := .pointer (some ⟨g, 5, none⟩)) rfl rfl (fun V hW => ?_) hH ?_
 ·clear hW hH
  go_simp
 refine td (i := 44) (d := some 73) (v := .int .i64 1) rfl rfl (fun V hW => ?_) hH ?_
 ·have k0 := (blk_cell hW.2.1 5).trans hcn
  clear hW hH hcu
  go_simp
 refine td (i := 45) (d := some 74) (v := .bool true) rfl rfl (fun V hW => ?_) hH ?_
 ·clear hW hH
  go_simp
 refine td (i := 46) (d := some 75) (v := .bool true) rfl rfl (fun V hW => ?_) hH ?_
 ·clear hW hH
  go_simp
 refine td (i := 47) (d := some 0) (v := .bool true) rfl rfl (fun V hW => ?_) hH ?_
 ·clear hW hH
  go_simp
 refine wpAnyH_done (by kernel_rfl) ?_ _
 have hfin := hΨ _ hH.2.2
 clear hΨ hcu
 go_wp2
 simp [bodyPost, results, hres, go_sem]
 exact hfin
end Go.Mark
set_option maxRecDepth 100000
set_option maxHeartbeats 4000000
namespace Go.Mark
open Go.Conc Go.Walk Go.Phase Go.RowKit Go.Conc.Lib Go.ConcR.Gen Go.ConcN.Gen Go.Lift Go.Proofs
open Go.ConcN (WgLive Has RW DWs AtR0 PayAt)
open Go.ConcR (KK WgAt stA smA rd wr mk Payload)
noncomputable def ops41 : Array Oper := match Tryz.f4.body with
 | some (.seq _ (.seq (.region _ o _) _)) => o
 | _ => #[]
noncomputable def c4 : Code := match Tryz.f4.body with
 | some (.seq _ (.seq _ c)) => c
 | _ => .skip
noncomputable def p4 : Code := match c4 with
 | .seq c _ => c
 | _ => .skip
noncomputable def d4 : Code := match c4 with
 | .seq _ c => c
 | _ => .skip
noncomputable def ops43 : Array Oper := match d4 with
 | .seq (.region _ o _) _ => o
 | _ => #[]
noncomputable def r4 : Code := match d4 with
 | .seq _ c => c
 | _ => .skip
noncomputable def ops14 : Array Oper := match Tryz.f14.body with
 | some (.seq _ (.seq (.region _ o _) _)) => o
 | _ => #[]
noncomputable def c14 : Code := match Tryz.f14.body with
 | some (.seq _ (.seq _ c)) => c
 | _ => .skip
theorem c4_eq : c4 = chain [p4] d4 := by kernel_rfl
theorem oko41 : okOps Tryz.prog ops41 = true := by kernel_rfl
theorem oko43 : okOps Tryz.prog ops43 = true := by kernel_rfl
theorem oko14 : okOps Tryz.prog ops14 = true := by kernel_rfl
theorem okc4 : okCode Tryz.prog (chain [p4] d4) = true := by kernel_rfl
theorem okc4' : okCode Tryz.prog c4 = true := by kernel_rfl
theorem okd4 : okCode Tryz.prog d4 = true := by kernel_rfl
theorem okr4 : okCode Tryz.prog r4 = true := by kernel_rfl
theorem okc14 : okCode Tryz.prog c14 = true := by kernel_rfl
section
variable {h0 : Array Obj} {cs : List Frame} {vn vg : Value}
theorem sLp1 {T12 : Array Value} (hT : T12 = Array.replicate 76 undef) : GoW Tryz.prog true AtRel DSil (fun g w => g = G ((base 12).at ⟨T12, []⟩ [.code (Tryz.f12.body.getD .skip)]) (((base 4).at ⟨#[vn, vg, undef, undef, .bool false, undef, undef, undef, undef, undef, undef, undef, undef, undef, undef, undef, undef, undef, undef, undef, undef, undef, undef, undef, undef, undef, undef, undef, undef, undef, undef, undef, undef, undef, undef, undef, undef, undef, undef, undef, undef, undef, undef, undef, undef, undef, undef, undef, undef, undef, undef, undef, undef, undef, undef, undef, undef, undef, undef, undef, undef, undef, undef, undef], []⟩ (.inRegion ops41 [0, 1] :: [.code c4])) :: cs) /\ w.heap = h0) (fun w => w.heap = h0) 40
   (G ((base 4).at ⟨#[vn, vg] ++ Array.replicate 62 undef, []⟩ [.code (Tryz.f4.body.getD .skip)]) cs) := by
 have E := envS h0
 have hTs : Shut (T12 = Array.replicate 76 undef) := hT
 clear hT
 obtain ⟨bd, hbd⟩ : ∃ c, c = c4 := ⟨_, rfl⟩
 have hbd' := hbd
 simp only [c4, Tryz.f4] at hbd'
 obtain ⟨bc, hbc⟩ : ∃ c, c = Tryz.f12.body.getD .skip := ⟨_, rfl⟩
 rw [<- hbd, <- hbc]
 simp only [ops41, Tryz.f4, Option.getD_some]
 rw [<- hbd']
 walk_nrm
 repeat (first
  | refine gw_seq E ?_
  | refine gw_region_end E ?_
  | refine gw_region_1 E ?_
  | refine gw_region_2 E ?_
  | (refine gw_opk E rfl rfl (by k_ne) (fun w hF K hK => ?_); go_simp; refine hK _ (by simp [go_sem, *]) ?_; clear hK K hF w; try w_num))
 have hnm : (Tryz.f12.name == "runtime.NumGoroutine") = false := by kernel_rfl
 have hbody : Tryz.f12.body = some bc := by rw [hbc]; kernel_rfl
 refine gw_call E rfl rfl (by k_ne) rfl Tryz.func12 hnm hbody ?_
 rw [Tryz.ntmps12]
 clear hnm hbody hbc hbd hbd'
 refine gw_stop E (fun w hw => ⟨?_, hw⟩)
 rw [hTs.out]
 simp
theorem sKn1  : GoW Tryz.prog true AtRel DSil (fun g w => g = G ((base 12).at ⟨#[.bool false, undef, undef, undef, undef, undef, undef, undef, undef, undef, undef, undef, undef, undef, undef, undef, undef, undef, undef, undef, undef, undef, undef, undef, undef, undef, undef, undef, undef, undef, undef, undef, undef, undef, undef, undef, undef, undef, undef, undef] ++ #[undef, undef, undef, undef, undef, undef, undef, undef, undef, undef, undef, undef, undef, undef, undef, undef, undef, undef, undef, undef, undef, undef, undef, undef, undef, undef, undef, undef, undef, undef, undef, undef, undef, undef, undef, undef], []⟩ (.inRegion ops12 ([0, 1, 2, 3] ++ [4, 5, 6, 7, 8, 9]) :: [.code c12])) cs /\ w.heap = h0) (fun w => w.heap = h0) 40
   (G ((base 12).at ⟨Array.replicate 76 undef, []⟩ [.code (Tryz.f12.body.getD .skip)]) cs) := by
 have E := envS h0
 obtain ⟨bd, hbd⟩ : ∃ c, c = c12 := ⟨_, rfl⟩
 have hbd' := hbd
 simp only [c12, Tryz.f12] at hbd'
 rw [<- hbd]
 simp only [ops12, Tryz.f12, Option.getD_some]
 rw [<- hbd']
 clear hbd hbd'
 walk_nrm
 refine gw_seq E ?_
 refine gw_region_1 E ?_
 refine gw_opk E rfl rfl (by k_ne) (fun w hF K hK => ?_)
 go_simp
 refine hK _ (by simp [go_sem, *]) ?_
 clear hK K hF w
 refine gw_region_end E ?_
 refine gw_seq E ?_
 refine gw_region_10 E ?_
 exact gw_stop E (fun w hw => ⟨rfl, hw⟩)
theorem sKn2 {x7 x8 x9 : Value} {b : Nat} : GoW Tryz.prog true AtRel DSil (fun g w => g = G ((base 16).at ⟨#[.slice (some ⟨b, 0, none⟩) 2 2] ++ Array.replicate 12 undef, []⟩ [.code (Tryz.f16.body.getD .skip)]) (((base 12).at ⟨#[.bool false, undef, undef, undef, undef, undef, undef, x7, x8, x9, .slice (some ⟨b, 0, none⟩) 2 2, undef, undef, undef, undef, undef, undef, undef, undef, undef, undef, undef, undef, undef, undef, undef, undef, undef, undef, undef, undef, undef, undef, undef, undef, undef, undef, undef, undef, undef] ++ #[undef, undef, undef, undef, undef, undef, undef, undef, undef, undef, undef, undef, undef, undef, undef, undef, undef, undef, undef, undef, undef, undef, undef, undef, undef, undef, undef, undef, undef, undef, undef, undef, undef, undef, undef, undef], []⟩ (.inRegion ops12 [4, 5, 6, 7, 8, 9] :: [.code c12])) :: cs) /\ w.heap = h0) (fun w => w.heap = h0) 40
   (G ((base 12).at ⟨#[.bool false, undef, undef, undef, undef, undef, undef, x7, x8, x9, .slice (some ⟨b, 0, none⟩) 2 2, undef, undef, undef, undef, undef, undef, undef, undef, undef, undef, undef, undef, undef, undef, undef, undef, undef, undef, undef, undef, undef, undef, undef, undef, undef, undef, undef, undef, undef] ++ #[undef, undef, undef, undef, undef, undef, undef, undef, undef, undef, undef, undef, undef, undef, undef, undef, undef, undef, undef, undef, undef, undef, undef, undef, undef, undef, undef, undef, undef, undef, undef, undef, undef, undef, undef, undef], []⟩ (.inRegion ops12 [4, 5, 6, 7, 8, 9] :: [.code c12])) cs) := by
 have E := envS h0
 obtain ⟨bd, hbd⟩ : ∃ c, c = c12 := ⟨_, rfl⟩
 obtain ⟨bc, hbc⟩ : ∃ c, c = Tryz.f16.body.getD .skip := ⟨_, rfl⟩
 rw [<- hbd, <- hbc]
 simp only [ops12, Tryz.f12]
 walk_nrm
 have hnm : (Tryz.f16.name == "runtime.NumGoroutine") = false := by kernel_rfl
 have hbody : Tryz.f16.body = some bc := by rw [hbc]; kernel_rfl
 refine gw_call E rfl rfl (by k_ne) rfl Tryz.func16 hnm hbody ?_
 rw [Tryz.ntmps16]
 clear hnm hbody hbc hbd
 walk_nrm
 exact gw_stop E (fun w hw => ⟨rfl, hw⟩)
theorem sLp2  : GoW Tryz.prog true AtRel DSil (fun g w => g = G ((base 4).at ⟨#[vn, vg, undef, undef, .bool false, .bool true, undef, undef, undef, undef, undef, undef, .bool true, undef, undef, undef, undef, undef, undef, undef, undef, undef, undef, undef, undef, undef, undef, undef, undef, undef, undef, undef, undef, undef, undef, undef, undef, undef, undef, undef, undef, undef, undef, undef, undef, undef, undef, undef, undef, undef, undef, undef, undef, undef, undef, undef, undef, undef, undef, undef, undef, undef, undef, undef], []⟩ ([.code c4])) cs /\ w.heap = h0) (fun w => w.heap = h0) 40
   (G ((base 4).at ⟨#[vn, vg, undef, undef, .bool false, undef, undef, undef, undef, undef, undef, undef, .bool true, undef, undef, undef, undef, undef, undef, undef, undef, undef, undef, undef, undef, undef, undef, undef, undef, undef, undef, undef, undef, undef, undef, undef, undef, undef, undef, undef, undef, undef, undef, undef, undef, undef, undef, undef, undef, undef, undef, undef, undef, undef, undef, undef, undef, undef, undef, undef, undef, undef, undef, undef], []⟩ (.inRegion ops41 [1] :: [.code c4])) cs) := by
 have E := envS h0
 obtain ⟨bd, hbd⟩ : ∃ c, c = c4 := ⟨_, rfl⟩
 rw [<- hbd]
 simp only [ops41, Tryz.f4]
 clear hbd
 refine gw_opk E rfl rfl (by k_ne) (fun w hF K hK => ?_)
 go_simp
 refine hK _ (by simp [go_sem, *]) ?_
 clear hK K hF w
 refine gw_region_end E ?_
 exact gw_stop E (fun w hw => ⟨rfl, hw⟩)
theorem sLp3 {vk x13 x14 x15 : Value} : GoW Tryz.prog true AtRel DSil (fun g w => g = G ((base 4).at ⟨#[vn, vg, undef, undef, .bool false, .bool true, vk, undef, undef, undef, undef, undef, .bool true, x13, x14, x15, undef, undef, undef, undef, undef, undef, undef, undef, undef, undef, undef, undef, undef, undef, undef, undef, undef, undef, undef, undef, undef, undef, undef, undef, undef, undef, undef, undef, undef, undef, undef, undef, undef, undef, undef, undef, undef, undef, undef, undef, undef, undef, undef, undef, undef, undef, undef, undef], []⟩ (.inRegion ops43 ([0, 1, 2, 3, 4, 5] ++ [6, 7]) :: [.code r4])) cs /\ w.heap = h0) (fun w => w.heap = h0) 40
   (G ((base 4).at ⟨#[vn, vg, undef, undef, .bool false, .bool true, vk, undef, undef, undef, undef, undef, .bool true, x13, x14, x15, undef, undef, undef, undef, undef, undef, undef, undef, undef, undef, undef, undef, undef, undef, undef, undef, undef, undef, undef, undef, undef, undef, undef, undef, undef, undef, undef, undef, undef, undef, undef, undef, undef, undef, undef, undef, undef, undef, undef, undef, undef, undef, undef, undef, undef, undef, undef, undef], []⟩ ([.code d4])) cs) := by
 have E := envS h0
 obtain ⟨bd, hbd⟩ : ∃ c, c = r4 := ⟨_, rfl⟩
 have hbd' := hbd
 simp only [r4, d4, c4, Tryz.f4] at hbd'
 rw [<- hbd]
 simp only [ops43, d4, c4, Tryz.f4]
 rw [<- hbd']
 clear hbd hbd'
 walk_nrm
 refine gw_seq E ?_
 refine gw_region_8 E ?_
 exact gw_stop E (fun w hw => ⟨rfl, hw⟩)
theorem sLp4 {vk x13 x14 x15 x16 x17 x18 x19 x20 : Value} {st : ByteArray} : GoW Tryz.prog true AtRel DSil (fun g w => g = G ((base 14).at ⟨#[.string st] ++ Array.replicate 15 undef, []⟩ [.code (Tryz.f14.body.getD .skip)]) (((base 4).at ⟨#[vn, vg, undef, undef, .bool false, .bool true, vk, undef, undef, undef, undef, undef, .bool true, x13, x14, x15, x16, x17, x18, x19, x20, .string st, undef, undef, undef, undef, undef, undef, undef, undef, undef, undef, undef, undef, undef, undef, undef, undef, undef, undef, undef, undef, undef, undef, undef, undef, undef, undef, undef, undef, undef, undef, undef, undef, undef, undef, undef, undef, undef, undef, undef, undef, undef, undef], []⟩ (.inRegion ops43 [6, 7] :: [.code r4])) :: cs) /\ w.heap = h0) (fun w => w.heap = h0) 40
   (G ((base 4).at ⟨#[vn, vg, undef, undef, .bool false, .bool true, vk, undef, undef, undef, undef, undef, .bool true, x13, x14, x15, x16, x17, x18, x19, x20, .string st, undef, undef, undef, undef, undef, undef, undef, undef, undef, undef, undef, undef, undef, undef, undef, undef, undef, undef, undef, undef, undef, undef, undef, undef, undef, undef, undef, undef, undef, undef, undef, undef, undef, undef, undef, undef, undef, undef, undef, undef, undef, undef], []⟩ (.inRegion ops43 [6, 7] :: [.code r4])) cs) := by
 have E := envS h0
 obtain ⟨bd, hbd⟩ : ∃ c, c = r4 := ⟨_, rfl⟩
 obtain ⟨bc, hbc⟩ : ∃ c, c = Tryz.f14.body.getD .skip := ⟨_, rfl⟩
 rw [<- hbd, <- hbc]
 simp only [ops43, d4, c4, Tryz.f4]
 walk_nrm
 have hnm : (Tryz.f14.name == "runtime.NumGoroutine") = false := by kernel_rfl
 have hbody : Tryz.f14.body = some bc := by rw [hbc]; kernel_rfl
 refine gw_call E rfl rfl (by k_ne) rfl Tryz.func14 hnm hbody ?_
 rw [Tryz.ntmps14]
 clear hnm hbody hbc hbd
 walk_nrm
 exact gw_stop E (fun w hw => ⟨rfl, hw⟩)
theorem sOn1 {st : ByteArray} : GoW Tryz.prog true AtRel DSil (fun g w => g = G ((base 14).at ⟨#[.string st, undef, .pointer none, undef, undef, undef, undef, undef, undef, undef, undef, undef, undef, undef, undef, undef], []⟩ (.inRegion ops14 ([0, 1, 2, 3, 4, 5] ++ [6, 7, 8, 9, 10, 11]) :: [.code c14])) cs /\ w.heap = h0) (fun w => w.heap = h0) 40
   (G ((base 14).at ⟨#[.string st] ++ Array.replicate 15 undef, []⟩ [.code (Tryz.f14.body.getD .skip)]) cs) := by
 have E := envS h0
 obtain ⟨bd, hbd⟩ : ∃ c, c = c14 := ⟨_, rfl⟩
 have hbd' := hbd
 simp only [c14, Tryz.f14] at hbd'
 rw [<- hbd]
 simp only [ops14, Tryz.f14, Option.getD_some]
 rw [<- hbd']
 clear hbd hbd'
 walk_nrm
 refine gw_seq E ?_
 refine gw_region_1 E ?_
 refine gw_opk E rfl rfl (by k_ne) (fun w hF K hK => ?_)
 go_simp
 refine hK _ (by simp [go_sem, *]) ?_
 clear hK K hF w
 refine gw_region_end E ?_
 refine gw_seq E ?_
 refine gw_region_12 E ?_
 exact gw_stop E (fun w hw => ⟨rfl, hw⟩)
theorem sOn2 {x6 x7 x8 x9 x10 : Value} {b : Nat} {st : ByteArray} : GoW Tryz.prog true AtRel DSil (fun g w => g = G ((base 16).at ⟨#[.slice (some ⟨b, 0, none⟩) 2 2] ++ Array.replicate 12 undef, []⟩ [.code (Tryz.f16.body.getD .skip)]) (((base 14).at ⟨#[.string st, undef, .pointer none, undef, undef, undef, x6, x7, x8, x9, x10, .slice (some ⟨b, 0, none⟩) 2 2, undef, undef, undef, undef], []⟩ (.inRegion ops14 [6, 7, 8, 9, 10, 11] :: [.code c14])) :: cs) /\ w.heap = h0) (fun w => w.heap = h0) 40
   (G ((base 14).at ⟨#[.string st, undef, .pointer none, undef, undef, undef, x6, x7, x8, x9, x10, .slice (some ⟨b, 0, none⟩) 2 2, undef, undef, undef, undef], []⟩ (.inRegion ops14 [6, 7, 8, 9, 10, 11] :: [.code c14])) cs) := by
 have E := envS h0
 obtain ⟨bd, hbd⟩ : ∃ c, c = c14 := ⟨_, rfl⟩
 obtain ⟨bc, hbc⟩ : ∃ c, c = Tryz.f16.body.getD .skip := ⟨_, rfl⟩
 rw [<- hbd, <- hbc]
 simp only [ops14, Tryz.f14]
 walk_nrm
 have hnm : (Tryz.f16.name == "runtime.NumGoroutine") = false := by kernel_rfl
 have hbody : Tryz.f16.body = some bc := by rw [hbc]; kernel_rfl
 refine gw_call E rfl rfl (by k_ne) rfl Tryz.func16 hnm hbody ?_
 rw [Tryz.ntmps16]
 clear hnm hbody hbc hbd
 walk_nrm
 exact gw_stop E (fun w hw => ⟨rfl, hw⟩)
theorem sLp5 {vk x13 x14 x15 x16 x17 x18 x19 x20 : Value} {st : ByteArray} {pw : Nat} : GoW Tryz.prog true AtRel DSil (fun g w => g = G ((base 4).at ⟨#[vn, vg, undef, undef, .bool false, .bool true, vk, .pointer (some ⟨pw, 0, none⟩), undef, undef, undef, undef, .bool true, x13, x14, x15, x16, x17, x18, x19, x20, .string st, .pointer (some ⟨pw, 0, none⟩), undef, undef, undef, undef, undef, undef, undef, undef, undef, undef, undef, undef, undef, undef, undef, undef, undef, undef, undef, undef, undef, undef, undef, undef, undef, undef, undef, undef, undef, undef, undef, undef, undef, undef, undef, undef, undef, undef, undef, undef, undef], []⟩ ([.code r4])) cs /\ w.heap = h0) (fun w => w.heap = h0) 40
   (G ((base 4).at ⟨#[vn, vg, undef, undef, .bool false, .bool true, vk, undef, undef, undef, undef, undef, .bool true, x13, x14, x15, x16, x17, x18, x19, x20, .string st, .pointer (some ⟨pw, 0, none⟩), undef, undef, undef, undef, undef, undef, undef, undef, undef, undef, undef, undef, undef, undef, undef, undef, undef, undef, undef, undef, undef, undef, undef, undef, undef, undef, undef, undef, undef, undef, undef, undef, undef, undef, undef, undef, undef, undef, undef, undef, undef], []⟩ (.inRegion ops43 [7] :: [.code r4])) cs) := by
 have E := envS h0
 obtain ⟨bd, hbd⟩ : ∃ c, c = r4 := ⟨_, rfl⟩
 rw [<- hbd]
 simp only [ops43, d4, c4, Tryz.f4]
 clear hbd
 refine gw_opk E rfl rfl (by k_ne) (fun w hF K hK => ?_)
 go_simp
 refine hK _ (by simp [go_sem, *]) ?_
 clear hK K hF w
 refine gw_region_end E ?_
 exact gw_stop E (fun w hw => ⟨rfl, hw⟩)
end
end Go.Mark
