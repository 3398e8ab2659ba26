import Derived.Test.YtbephahokhnccaaGreatDoorXK14toK18
set_option linter.unusedSectionVars false
set_option maxRecDepth 100000
set_option maxHeartbeats 4000000
namespace Go.Mark
open Go.RowKit Go.Proofs
variable [BaseB]
attribute [local go_sem] wd
theorem Pres.thenx {B B' : List Nat} {T : List TypeId} {w v u : World} (h : Pres B T w v) (h' : Pres B' T v u) (hB : ∀ k ∈ B', k ∈ B \/ w.heap.size <= k) : Pres B T w u := by
 refine ⟨h'.os.trans h.os, h'.tape.trans h.tape, h'.output.trans h.output, Nat.le_trans h.size h'.size, fun k hk hn => ?_⟩
 have hn' : k ∉ B' := fun e => by
  rcases hB k e with e | e
  ·exact hn e
  ·omega
 rcases h.block k hk hn with e | ⟨t, c, c', ht, hb, h1, h2⟩
 ·rcases h'.block k (Nat.lt_of_lt_of_le hk h.size) hn' with e' | ⟨t, c, c', ht, hb, h1, h2⟩
  ·exact .inl (e'.trans e)
  ·exact .inr ⟨t, c, c', ht, hb, e.symm.trans h1, h2⟩
 ·rcases h'.block k (Nat.lt_of_lt_of_le hk h.size) hn' with e' | ⟨t', d, d', ht', _, h3, h4⟩
  ·exact .inr ⟨t, c, c', ht, hb, h1, e'.trans h2⟩
  ·rw [h2] at h3
   cases h3
   exact .inr ⟨t, c, d', ht, hb, h1, h4⟩
theorem ownBlock_eq (a : Option Addr) (n m c d : Nat) : (Value.slice a n c).ownBlock = (Value.slice a m d).ownBlock := by cases a <;> rfl
theorem frC_at14 (F : Frm) (sv : SV) : (frC F sv)[14]? = some (.slice sv.a sv.n sv.c) := rfl
theorem work2 {W : World} {f : Nat} {F : Frm} {sv : SV} {T : List Nat} {x y : Nat} (hf : W.heap[f]? = some (.cells (frC F sv) 225 (0, 0))) (hs : Stk W sv (T ++ [y] ++ [x])) (hx : x < M) (hy : y < M) :
  Calls TryQ.prog 335 #[.pointer (some ⟨f, 0, none⟩), .int .u8 2] W fun e w' => ∃ sv' : SV, e = .returned (wd ((x + M - y) % M)) /\ w'.heap[f]? = some (.cells (frC F sv') 225 (0, 0)) /\ Stk w' sv' T /\ Pres [f] [] W w' := by
 have hfl := blk_lt hf
 have hb0 : Below W.heap.size W ((W.alloc (.cells #[.int .u64 0, .int .u64 0, .int .u64 0, .int .u64 0] 41)).alloc (.cells #[.int .u64 0, .int .u64 0, .int .u64 0, .int .u64 0, .int .u64 0, .int .u64 0, .int .u64 0, .int .u64 0, .int .u64 0, .int .u64 0, .int .u64 0, .int .u64 0] 319)) := ba.alloc (by simp) _
 have hr0 := blk_alloc (p := .cells #[.int .u64 0, .int .u64 0, .int .u64 0, .int .u64 0, .int .u64 0, .int .u64 0, .int .u64 0, .int .u64 0, .int .u64 0, .int .u64 0, .int .u64 0, .int .u64 0] 319) (blk_new W (.cells #[.int .u64 0, .int .u64 0, .int .u64 0, .int .u64 0] 41))
 have hw0 := blk_new (W.alloc (.cells #[.int .u64 0, .int .u64 0, .int .u64 0, .int .u64 0] 41)) (.cells #[.int .u64 0, .int .u64 0, .int .u64 0, .int .u64 0, .int .u64 0, .int .u64 0, .int .u64 0, .int .u64 0, .int .u64 0, .int .u64 0, .int .u64 0, .int .u64 0] 319)
 rw [show (W.alloc (.cells #[.int .u64 0, .int .u64 0, .int .u64 0, .int .u64 0] 41)).heap.size = W.heap.size + 1 by simp] at hw0
 go_enter TryQ.func335, Tryz.ntmps335
 go_wp2_with fail
 generalize (W.alloc (.cells #[.int .u64 0, .int .u64 0, .int .u64 0, .int .u64 0] 41)).alloc (.cells #[.int .u64 0, .int .u64 0, .int .u64 0, .int .u64 0, .int .u64 0, .int .u64 0, .int .u64 0, .int .u64 0, .int .u64 0, .int .u64 0, .int .u64 0, .int .u64 0] 319) = w0 at hb0 hr0 hw0 ⊢
 refine (shape_2 w0).mono ?_
 rintro e w1 ⟨rfl, hb1⟩
 have hb1' := hb0.trans (hb1.mono hb0.size)
 have hr1 := (hb1.block _ (blk_lt hr0)).trans hr0
 have hw1 := (hb1.block _ (blk_lt hw0)).trans hw0
 have hb2 : Below W.heap.size W (w1.alloc (.cells #[.int .i64 2, .int .i64 1, .int .i64 3] 369)) := hb1'.trans (ba.mono hb1'.size)
 have hr2 := blk_alloc (p := .cells #[.int .i64 2, .int .i64 1, .int .i64 3] 369) hr1
 have hw2 := blk_alloc (p := .cells #[.int .i64 2, .int .i64 1, .int .i64 3] 369) hw1
 have hn2 := blk_new w1 (.cells #[.int .i64 2, .int .i64 1, .int .i64 3] 369)
 have hf2 := (hb2.block _ hfl).trans hf
 have hs2 := hs.below hb2
 go_wp2_with fail
 generalize w1.alloc (.cells #[.int .i64 2, .int .i64 1, .int .i64 3] 369) = w2 at hb2 hr2 hw2 hn2 hf2 hs2 ⊢
 refine wp_loop_rounds 3 ?_
 rw [rounds_succ]
 go_wp2_with fail
 refine (take296 (o := 14) hs2 hf2 (frC_at14 F sv) (by decide)).mono ?_
 rintro e w3 ⟨rfl, hf3, hs3, hp3⟩
 have hfw : W.heap.size + 1 ≠ f := by omega
 have hfr : W.heap.size ≠ f := by omega
 have hw3 := hp3.obj hw2 (by show (319 : Nat) ∉ []; simp) (by simpa using hfw)
 have hr3 := hp3.obj hr2 (by show (41 : Nat) ∉ []; simp) (by simpa using hfr)
 have c0 := blk_cell hw3 0
 have c1 := blk_cell hw3 1
 have c2 := blk_cell hw3 2
 have c3 := blk_cell hw3 3
 simp only [List.getElem?_toArray, List.getElem?_cons_zero, List.getElem?_cons_succ] at c0 c1 c2 c3
 have d0 := blk_fz hw3 0
 have d1 := blk_fz hw3 1
 have d2 := blk_fz hw3 2
 have d3 := blk_fz hw3 3
 go_wp2_with fail
 have hw4 : (((((w3).setCell ⟨W.heap.size + 1, 0, none⟩ (.int .u64 (lim x 0))).setCell ⟨W.heap.size + 1, 1, none⟩ (.int .u64 (lim x 1))).setCell ⟨W.heap.size + 1, 2, none⟩ (.int .u64 (lim x 2))).setCell ⟨W.heap.size + 1, 3, none⟩ (.int .u64 (lim x 3))).heap[W.heap.size + 1]? = some (.cells #[.int .u64 (lim x 0), .int .u64 (lim x 1), .int .u64 (lim x 2), .int .u64 (lim x 3), .int .u64 0, .int .u64 0, .int .u64 0, .int .u64 0, .int .u64 0, .int .u64 0, .int .u64 0, .int .u64 0] 319 (0, 0)) := blk_set (blk_set (blk_set (blk_set hw3)))
 have hp4 : Pres [W.heap.size + 1] [] w3 (((((w3).setCell ⟨W.heap.size + 1, 0, none⟩ (.int .u64 (lim x 0))).setCell ⟨W.heap.size + 1, 1, none⟩ (.int .u64 (lim x 1))).setCell ⟨W.heap.size + 1, 2, none⟩ (.int .u64 (lim x 2))).setCell ⟨W.heap.size + 1, 3, none⟩ (.int .u64 (lim x 3))) := (((Pres.setCell w3 _ 0 _).trans (Pres.setCell _ _ 1 _)).trans (Pres.setCell _ _ 2 _)).trans (Pres.setCell _ _ 3 _)
 generalize ((((w3).setCell ⟨W.heap.size + 1, 0, none⟩ (.int .u64 (lim x 0))).setCell ⟨W.heap.size + 1, 1, none⟩ (.int .u64 (lim x 1))).setCell ⟨W.heap.size + 1, 2, none⟩ (.int .u64 (lim x 2))).setCell ⟨W.heap.size + 1, 3, none⟩ (.int .u64 (lim x 3)) = w4 at hw4 hp4 ⊢
 have hf4 : w4.heap[f]? = some (.cells (frC F ⟨sv.a, (T ++ [y]).length, sv.c⟩) 225 (0, 0)) := hp4.obj hf3 (by show (225 : Nat) ∉ []; simp) (by simp; omega)
 have hr4 := hp4.obj hr3 (by show (41 : Nat) ∉ []; simp) (by simp)
 have hn3 := hp3.obj hn2 (by show (369 : Nat) ∉ []; simp) (by have := ty_ne hn2 hf2 (by decide); simpa using this)
 have hs4 := hs3.pres hp4 (by simp) (fun k hk o ho => by
  obtain rfl : k = W.heap.size + 1 := by simpa using hk
  rw [hw3] at ho
  cases ho
  exact ⟨_, _, _, rfl, by decide⟩)
 clear c0 c1 c2 c3 d0 d1 d2 d3
 rw [rounds_succ]
 go_wp2_with fail
 refine (take296 (o := 14) hs4 hf4 (frC_at14 F _) (by decide)).mono ?_
 rintro e w5 ⟨rfl, hf5, hs5, hp5⟩
 have hw5 := hp5.obj hw4 (by show (319 : Nat) ∉ []; simp) (by simpa using hfw)
 have hr5 := hp5.obj hr4 (by show (41 : Nat) ∉ []; simp) (by simpa using hfr)
 have c0 := blk_cell hw5 4
 have c1 := blk_cell hw5 5
 have c2 := blk_cell hw5 6
 have c3 := blk_cell hw5 7
 simp only [List.getElem?_toArray, List.getElem?_cons_zero, List.getElem?_cons_succ] at c0 c1 c2 c3
 have d0 := blk_fz hw5 4
 have d1 := blk_fz hw5 5
 have d2 := blk_fz hw5 6
 have d3 := blk_fz hw5 7
 go_wp2_with fail
 have hw6 : (((((w5).setCell ⟨W.heap.size + 1, 4, none⟩ (.int .u64 (lim y 0))).setCell ⟨W.heap.size + 1, 5, none⟩ (.int .u64 (lim y 1))).setCell ⟨W.heap.size + 1, 6, none⟩ (.int .u64 (lim y 2))).setCell ⟨W.heap.size + 1, 7, none⟩ (.int .u64 (lim y 3))).heap[W.heap.size + 1]? = some (.cells #[.int .u64 (lim x 0), .int .u64 (lim x 1), .int .u64 (lim x 2), .int .u64 (lim x 3), .int .u64 (lim y 0), .int .u64 (lim y 1), .int .u64 (lim y 2), .int .u64 (lim y 3), .int .u64 0, .int .u64 0, .int .u64 0, .int .u64 0] 319 (0, 0)) := blk_set (blk_set (blk_set (blk_set hw5)))
 have hp6 : Pres [W.heap.size + 1] [] w5 (((((w5).setCell ⟨W.heap.size + 1, 4, none⟩ (.int .u64 (lim y 0))).setCell ⟨W.heap.size + 1, 5, none⟩ (.int .u64 (lim y 1))).setCell ⟨W.heap.size + 1, 6, none⟩ (.int .u64 (lim y 2))).setCell ⟨W.heap.size + 1, 7, none⟩ (.int .u64 (lim y 3))) := (((Pres.setCell w5 _ 4 _).trans (Pres.setCell _ _ 5 _)).trans (Pres.setCell _ _ 6 _)).trans (Pres.setCell _ _ 7 _)
 generalize ((((w5).setCell ⟨W.heap.size + 1, 4, none⟩ (.int .u64 (lim y 0))).setCell ⟨W.heap.size + 1, 5, none⟩ (.int .u64 (lim y 1))).setCell ⟨W.heap.size + 1, 6, none⟩ (.int .u64 (lim y 2))).setCell ⟨W.heap.size + 1, 7, none⟩ (.int .u64 (lim y 3)) = w6 at hw6 hp6 ⊢
 have hf6 : w6.heap[f]? = some (.cells (frC F ⟨sv.a, T.length, sv.c⟩) 225 (0, 0)) := hp6.obj hf5 (by show (225 : Nat) ∉ []; simp) (by simp; omega)
 have hr6 := hp6.obj hr5 (by show (41 : Nat) ∉ []; simp) (by simp)
 have hs6 := hs5.pres hp6 (by simp) (fun k hk o ho => by
  obtain rfl : k = W.heap.size + 1 := by simpa using hk
  rw [hw5] at ho
  cases ho
  exact ⟨_, _, _, rfl, by decide⟩)
 clear c0 c1 c2 c3 d0 d1 d2 d3
 have c0 := blk_cell hw6 0
 have c1 := blk_cell hw6 1
 have c2 := blk_cell hw6 2
 have c3 := blk_cell hw6 3
 have c4 := blk_cell hw6 4
 have c5 := blk_cell hw6 5
 have c6 := blk_cell hw6 6
 have c7 := blk_cell hw6 7
 have c8 := blk_cell hw6 8
 have c9 := blk_cell hw6 9
 have c10 := blk_cell hw6 10
 have c11 := blk_cell hw6 11
 simp only [List.getElem?_toArray, List.getElem?_cons_zero, List.getElem?_cons_succ] at c0 c1 c2 c3 c4 c5 c6 c7 c8 c9 c10 c11
 rw [rounds_succ]
 go_wp2_with fail
 refine (nwork2 x y 0 hx hy w6).mono ?_
 rintro e w7 ⟨rfl, hb7⟩
 have hr7 := (hb7.block _ (blk_lt hr6)).trans hr6
 clear c0 c1 c2 c3 c4 c5 c6 c7 c8 c9 c10 c11
 have c0 := blk_cell hr7 0
 have c1 := blk_cell hr7 1
 have c2 := blk_cell hr7 2
 have c3 := blk_cell hr7 3
 simp only [List.getElem?_toArray, List.getElem?_cons_zero, List.getElem?_cons_succ] at c0 c1 c2 c3
 have d0 := blk_fz hr7 0
 have d1 := blk_fz hr7 1
 have d2 := blk_fz hr7 2
 have d3 := blk_fz hr7 3
 go_wp2
 obtain ⟨r, hr⟩ : ∃ r, (x + M - y) % M = r := ⟨_, rfl⟩
 rw [hr]
 have hr8 := blk_set4 (.int .u64 (lim r 0)) (.int .u64 (lim r 1)) (.int .u64 (lim r 2)) (.int .u64 (lim r 3)) hr7
 have hp8 := pres_set4 w7 W.heap.size (.int .u64 (lim r 0)) (.int .u64 (lim r 1)) (.int .u64 (lim r 2)) (.int .u64 (lim r 3))
 generalize ((((w7).setCell ⟨W.heap.size, 0, none⟩ (.int .u64 (lim r 0))).setCell ⟨W.heap.size, 1, none⟩ (.int .u64 (lim r 1))).setCell ⟨W.heap.size, 2, none⟩ (.int .u64 (lim r 2))).setCell ⟨W.heap.size, 3, none⟩ (.int .u64 (lim r 3)) = w8 at hr8 hp8 ⊢
 clear c0 c1 c2 c3 d0 d1 d2 d3
 have c0 := blk_cell hr8 0
 have c1 := blk_cell hr8 1
 have c2 := blk_cell hr8 2
 have c3 := blk_cell hr8 3
 simp at c0 c1 c2 c3
 simp [bodyPost, results, Tryz.results335, go_sem, c0, c1, c2, c3]
 have hf7 := (hb7.block _ (blk_lt hf6)).trans hf6
 refine ⟨⟨sv.a, T.length, sv.c⟩, hp8.obj hf7 (by show (225 : Nat) ∉ []; simp) (by simp; omega), ⟨own_same (hs6.below hb7).own fun g hg => ?_, hs6.num, Nat.le_trans (hs6.below hb7).low hp8.size⟩, ?_⟩
 ·have hgl : g < W.heap.size := own_lt hs.own g ((ownBlock_eq _ _ _ _ _).trans hg)
  rcases hp8.block g (own_lt (hs6.below hb7).own g hg) (by simp; omega) with e | ⟨_, _, _, h0, _⟩
  ·exact e
  ·cases h0
 ·exact ((((((Pres.of_below hb2 [f] []).thenx hp3 (by simp)).thenx hp4 (by simp)).thenx hp5 (by simp)).thenx hp6 (by simp)).thenx (.of_below hb7 [] []) (by simp)).thenx hp8 (by simp)
end Go.Mark
set_option maxRecDepth 100000
set_option maxHeartbeats 8000000
namespace Go.Mark
open Go.RowKit Go.Proofs
variable [BaseB]
attribute [local go_sem] wd
theorem step_go {W : World} {f : Nat} {F : Frm} {sv : SV} (hf : W.heap[f]? = some (.cells (frC F sv) 225 (0, 0))) (i len g : Int)
  (hin : ∀ w : World, w.heap[f]? = some (.cells (frC F sv) 225 (0, 0)) -> Calls TryQ.prog 261 #[.pointer (some ⟨f, 0, none⟩)] w fun e w' => e = .returned (.int .u8 i) /\ Below w.heap.size w w')
  (hpay : ∀ w : World, w.heap[f]? = some (.cells (frC F sv) 225 (0, 0)) -> Calls TryQ.prog 262 #[.pointer (some ⟨f, 0, none⟩), .int .u8 i] w fun e w' => e = .returned .nilIface /\ w'.heap[f]? = some (.cells (frC { F with gas := F.gas - g } sv) 225 (0, 0)) /\ Pres [f] [] w w')
  (hlen : ∀ w, Calls TryQ.prog 147 #[.int .u8 i] w fun e w' => e = .returned (.int .i64 len) /\ w' = w)
  (hpl : 0 <= F.place) (hpl' : F.place < 1000000) (hl0 : 0 <= len) (hl1 : len < 100) {F' : Frm} {S' : List Nat}
  (hdo : ∀ w : World, w.heap[f]? = some (.cells (frC { F with gas := F.gas - g, next := F.place + len } sv) 225 (0, 0)) -> Pres [f] [] W w -> Calls TryQ.prog 263 #[.pointer (some ⟨f, 0, none⟩), .int .u8 i] w fun e w' => e = .returned .nilIface /\ ∃ sv' : SV, w'.heap[f]? = some (.cells (frC F' sv') 225 (0, 0)) /\ Stk w' sv' S' /\ Pres [f] [41] w w') :
  Calls TryQ.prog 224 #[.pointer (some ⟨f, 0, none⟩)] W fun e w' => e = .returned .nilIface /\ ∃ sv' : SV, w'.heap[f]? = some (.cells (frC { F' with place := F'.next } sv') 225 (0, 0)) /\ Stk w' sv' S' /\ Pres [f] [41] W w' := by
 have hwl : IntKind.i64.wrap (F.place + len) = F.place + len := IntWalk.i64_in _ ⟨by omega, by omega⟩
 go_enter TryQ.func224, Tryz.ntmps224
 go_wp2_with fail
 refine (hin W hf).mono ?_
 rintro e w1 ⟨rfl, hb1⟩
 have hf1 := (hb1.block _ (blk_lt hf)).trans hf
 clear hin
 go_wp2_with fail
 refine (hpay w1 hf1).mono ?_
 rintro e w2 ⟨rfl, hf2, hp2⟩
 clear hpay
 have c16 := blk_cell hf2 16
 have c17 := blk_cell hf2 17
 have f17 := blk_fz hf2 17
 simp only [frC, List.getElem?_toArray, List.getElem?_cons_zero, List.getElem?_cons_succ] at c16 c17
 go_wp2_with fail
 refine wp_region_held_drew (S := fun V => V.cell? ⟨f, 16, none⟩ = some (.int .i64 F.place)) (by kernel_rfl) c16 (fun hH => ?_)
 refine td (i := 0) (d := some 16) (v := .pointer (some ⟨f, 0, none⟩)) rfl rfl (fun V hW => ?_) hH ?_
 ·clear hW hH
  go_simp
 refine td (i := 1) (d := some 17) (v := .pointer (some ⟨f, 0, none⟩)) rfl rfl (fun V hW => ?_) hH ?_
 ·clear hW hH
  go_simp
 refine td (i := 2) (d := some 18) (v := .pointer (some ⟨f, 0, none⟩)) rfl rfl (fun V hW => ?_) hH ?_
 ·clear hW hH
  go_simp
 refine td (i := 3) (d := some 19) (v := .pointer (some ⟨f, 16, none⟩)) rfl rfl (fun V hW => ?_) hH ?_
 ·clear hW hH
  go_simp
 refine td (i := 4) (d := some 20) (v := .int .i64 F.place) rfl rfl (fun V hW => ?_) hH ?_
 ·have k0 : V.cell? ⟨f, 16, none⟩ = some (.int .i64 F.place) := hW
  clear hW hH
  go_simp
 refine td (i := 5) (d := some 21) (v := .int .u8 i) rfl rfl (fun V hW => ?_) hH ?_
 ·clear hW hH
  go_simp
 refine r1 (i := 6) rfl (fun K hK => ?_)
 go_simp
 refine (hlen _).mono ?_
 rintro e W4 ⟨rfl, hw4⟩
 subst hw4
 go_wp2_with fail
 refine hK.out _ _ hH (fun hH => ?_)
 clear hK K
 refine td (i := 7) (d := some 23) (v := .int .i64 (F.place + len)) rfl rfl (fun V hW => ?_) hH ?_
 ·clear hW hH
  go_simp
 refine td (i := 8) (d := some 24) (v := .pointer (some ⟨f, 0, none⟩)) rfl rfl (fun V hW => ?_) hH ?_
 ·clear hW hH
  go_simp
 refine td (i := 9) (d := some 25) (v := .pointer (some ⟨f, 17, none⟩)) rfl rfl (fun V hW => ?_) hH ?_
 ·clear hW hH
  go_simp
 refine r1 (i := 10) rfl (fun K hK => ?_)
 go_simp
 refine hK.out _ _ ((blk_cell (blk_set (i := 17) (v := .int .i64 (F.place + len)) hf2) 16).trans rfl) (fun hH => ?_)
 clear hK K
 refine wpAnyH_done (by kernel_rfl) ?_ _
 clear c16 c17 f17 hlen
 have hf3 : (w2.setCell ⟨f, 17, none⟩ (.int .i64 (F.place + len))).drew.heap[f]? = some (.cells (frC { F with gas := F.gas - g, next := F.place + len } sv) 225 (0, 0)) := by
  have := blk_set (i := 17) (v := .int .i64 (F.place + len)) hf2
  rw [frC_next] at this
  exact this
 have hp3 : Pres [f] [] W (w2.setCell ⟨f, 17, none⟩ (.int .i64 (F.place + len))).drew := (((Pres.of_below hb1 [f] []).trans hp2).trans (Pres.setCell w2 f 17 _)).dr
 have hdo3 := hdo _ hf3 hp3
 go_wp2_with fail
 refine hdo3.mono ?_
 rintro e w4 ⟨rfl, sv', hf4, hs4, hp4⟩
 clear hdo hdo3
 have c17 := blk_cell hf4 17
 have c16 := blk_cell hf4 16
 have f16 := blk_fz hf4 16
 simp only [frC, List.getElem?_toArray, List.getElem?_cons_zero, List.getElem?_cons_succ] at c16 c17
 go_wp2
 go_ret
 refine ⟨rfl, sv', blk_set hf4, ?_, ?_⟩
 ·exact hs4.pres (Pres.setCell w4 f 16 _) (by simp) (fun k hk o ho => by
   obtain rfl : k = f := by simpa using hk
   rw [hf4] at ho
   cases ho
   exact ⟨_, _, _, rfl, by decide⟩)
 ·exact ((hp3.mono (fun _ _ h => h) (fun t h => by cases h)).trans hp4).trans ((Pres.setCell w4 f 16 _).mono (fun _ _ h => h) (fun t h => by cases h))
theorem step_end {W : World} {f : Nat} {F : Frm} {sv : SV} (hf : W.heap[f]? = some (.cells (frC F sv) 225 (0, 0))) (i len g : Int)
  (hin : ∀ w : World, w.heap[f]? = some (.cells (frC F sv) 225 (0, 0)) -> Calls TryQ.prog 261 #[.pointer (some ⟨f, 0, none⟩)] w fun e w' => e = .returned (.int .u8 i) /\ Below w.heap.size w w')
  (hpay : ∀ w : World, w.heap[f]? = some (.cells (frC F sv) 225 (0, 0)) -> Calls TryQ.prog 262 #[.pointer (some ⟨f, 0, none⟩), .int .u8 i] w fun e w' => e = .returned .nilIface /\ w'.heap[f]? = some (.cells (frC { F with gas := F.gas - g } sv) 225 (0, 0)) /\ Pres [f] [] w w')
  (hlen : ∀ w, Calls TryQ.prog 147 #[.int .u8 i] w fun e w' => e = .returned (.int .i64 len) /\ w' = w)
  (hpl : 0 <= F.place) (hpl' : F.place < 1000000) (hl0 : 0 <= len) (hl1 : len < 100) {vt : TypeId} {vv : Value}
  (hdo : ∀ w : World, w.heap[f]? = some (.cells (frC { F with gas := F.gas - g, next := F.place + len } sv) 225 (0, 0)) -> Calls TryQ.prog 263 #[.pointer (some ⟨f, 0, none⟩), .int .u8 i] w fun e w' => e = .returned (.iface vt vv) /\ Below w.heap.size w w') :
  Calls TryQ.prog 224 #[.pointer (some ⟨f, 0, none⟩)] W fun e w' => e = .returned (.iface vt vv) /\ Pres [f] [] W w' := by
 have hwl : IntKind.i64.wrap (F.place + len) = F.place + len := IntWalk.i64_in _ ⟨by omega, by omega⟩
 go_enter TryQ.func224, Tryz.ntmps224
 go_wp2_with fail
 refine (hin W hf).mono ?_
 rintro e w1 ⟨rfl, hb1⟩
 have hf1 := (hb1.block _ (blk_lt hf)).trans hf
 clear hin
 go_wp2_with fail
 refine (hpay w1 hf1).mono ?_
 rintro e w2 ⟨rfl, hf2, hp2⟩
 clear hpay
 have c16 := blk_cell hf2 16
 have c17 := blk_cell hf2 17
 have f17 := blk_fz hf2 17
 simp only [frC, List.getElem?_toArray, List.getElem?_cons_zero, List.getElem?_cons_succ] at c16 c17
 go_wp2_with fail
 refine wp_region_held_drew (S := fun V => V.cell? ⟨f, 16, none⟩ = some (.int .i64 F.place)) (by kernel_rfl) c16 (fun hH => ?_)
 refine td (i := 0) (d := some 16) (v := .pointer (some ⟨f, 0, none⟩)) rfl rfl (fun V hW => ?_) hH ?_
 ·clear hW hH
  go_simp
 refine td (i := 1) (d := some 17) (v := .pointer (some ⟨f, 0, none⟩)) rfl rfl (fun V hW => ?_) hH ?_
 ·clear hW hH
  go_simp
 refine td (i := 2) (d := some 18) (v := .pointer (some ⟨f, 0, none⟩)) rfl rfl (fun V hW => ?_) hH ?_
 ·clear hW hH
  go_simp
 refine td (i := 3) (d := some 19) (v := .pointer (some ⟨f, 16, none⟩)) rfl rfl (fun V hW => ?_) hH ?_
 ·clear hW hH
  go_simp
 refine td (i := 4) (d := some 20) (v := .int .i64 F.place) rfl rfl (fun V hW => ?_) hH ?_
 ·have k0 : V.cell? ⟨f, 16, none⟩ = some (.int .i64 F.place) := hW
  clear hW hH
  go_simp
 refine td (i := 5) (d := some 21) (v := .int .u8 i) rfl rfl (fun V hW => ?_) hH ?_
 ·clear hW hH
  go_simp
 refine r1 (i := 6) rfl (fun K hK => ?_)
 go_simp
 refine (hlen _).mono ?_
 rintro e W4 ⟨rfl, hw4⟩
 subst hw4
 go_wp2_with fail
 refine hK.out _ _ hH (fun hH => ?_)
 clear hK K
 refine td (i := 7) (d := some 23) (v := .int .i64 (F.place + len)) rfl rfl (fun V hW => ?_) hH ?_
 ·clear hW hH
  go_simp
 refine td (i := 8) (d := some 24) (v := .pointer (some ⟨f, 0, none⟩)) rfl rfl (fun V hW => ?_) hH ?_
 ·clear hW hH
  go_simp
 refine td (i := 9) (d := some 25) (v := .pointer (some ⟨f, 17, none⟩)) rfl rfl (fun V hW => ?_) hH ?_
 ·clear hW hH
  go_simp
 refine r1 (i := 10) rfl (fun K hK => ?_)
 go_simp
 refine hK.out _ _ ((blk_cell (blk_set (i := 17) (v := .int .i64 (F.place + len)) hf2) 16).trans rfl) (fun hH => ?_)
 clear hK K
 refine wpAnyH_done (by kernel_rfl) ?_ _
 clear c16 c17 f17 hlen
 have hf3 : (w2.setCell ⟨f, 17, none⟩ (.int .i64 (F.place + len))).drew.heap[f]? = some (.cells (frC { F with gas := F.gas - g, next := F.place + len } sv) 225 (0, 0)) := by
  have := blk_set (i := 17) (v := .int .i64 (F.place + len)) hf2
  rw [frC_next] at this
  exact this
 have hp3 : Pres [f] [] W (w2.setCell ⟨f, 17, none⟩ (.int .i64 (F.place + len))).drew := (((Pres.of_below hb1 [f] []).trans hp2).trans (Pres.setCell w2 f 17 _)).dr
 have hdo3 := hdo _ hf3
 go_wp2_with fail
 refine hdo3.mono ?_
 rintro e w4 ⟨rfl, hb4⟩
 clear hdo hdo3
 go_wp2
 go_ret
 exact ⟨rfl, hp3.trans (.of_below hb4 _ _)⟩
theorem step_bad {W : World} {f : Nat} {F : Frm} {sv : SV} (hf : W.heap[f]? = some (.cells (frC F sv) 225 (0, 0))) (i : Int) (et : TypeId) (ev : Value)
  (hin : ∀ w : World, w.heap[f]? = some (.cells (frC F sv) 225 (0, 0)) -> Calls TryQ.prog 261 #[.pointer (some ⟨f, 0, none⟩)] w fun e w' => e = .returned (.int .u8 i) /\ Below w.heap.size w w')
  (hpay : ∀ w : World, w.heap[f]? = some (.cells (frC F sv) 225 (0, 0)) -> Below W.heap.size W w -> Calls TryQ.prog 262 #[.pointer (some ⟨f, 0, none⟩), .int .u8 i] w fun e w' => e = .returned (.iface et ev) /\ Below w.heap.size w w') :
  Calls TryQ.prog 224 #[.pointer (some ⟨f, 0, none⟩)] W fun e w' => ∃ fb, e = .returned (.iface 217 (.agg #[.int .i64 F.gas, .iface 299 (.pointer (some ⟨fb, 0, none⟩))])) /\ w'.heap[fb]? = some (.cells #[.int .i64 F.self, .int .i64 F.place, .iface et ev, .int .i64 F.bl, .int .i64 F.bg, .int .i64 F.bb] 303 (0, 0)) /\ W.heap.size <= fb /\ Below W.heap.size W w' := by
 go_enter TryQ.func224, Tryz.ntmps224
 go_wp2_with fail
 refine (hin W hf).mono ?_
 rintro e w1 ⟨rfl, hb1⟩
 have hf1 := (hb1.block _ (blk_lt hf)).trans hf
 clear hin
 go_wp2_with fail
 refine (hpay w1 hf1 hb1).mono ?_
 rintro e w2 ⟨rfl, hb2⟩
 clear hpay
 have hf2 := (hb2.block _ (blk_lt hf1)).trans hf1
 have hbd := badly178 hf2 et ev
 go_wp2_with fail
 refine hbd.mono ?_
 rintro e w3 ⟨rfl, hfb, hb3⟩
 clear hbd
 go_wp2
 go_ret
 have hbA := hb1.trans (hb2.mono hb1.size)
 exact ⟨w2.heap.size, rfl, hfb, hbA.size, hbA.trans (hb3.mono hbA.size)⟩
end Go.Mark
namespace Go.Mark
section
variable {α : Type} (f : α -> Int)
def insK (x : α) : List α -> List α
 | [] => [x]
 | y :: l => if f x < f y then x :: y :: l else y :: insK x l
def srt (l : List α) : List α := l.foldr (insK f) []
abbrev Up (l : List α) : Prop := l.Pairwise fun a b => f a < f b
theorem insK_perm (x : α) : ∀ l : List α, (insK f x l).Perm (x :: l)
 | [] => .refl _
 | y :: l => by
  unfold insK
  split
  ·exact .refl _
  ·exact ((insK_perm x l).cons y).trans (.swap x y l)
theorem srt_perm : ∀ l : List α, (srt f l).Perm l
 | [] => .refl _
 | x :: l => (insK_perm f x (srt f l)).trans ((srt_perm l).cons x)
theorem insK_up (x : α) : ∀ l : List α, Up f l -> (∀ y ∈ l, f x ≠ f y) -> Up f (insK f x l)
 | [], _, _ => by simp [insK]
 | y :: l, h, hx => by
  unfold insK
  have h' := List.pairwise_cons.1 h
  split
  ·rename_i hl
   exact List.pairwise_cons.2 ⟨fun z hz => by
    rcases List.mem_cons.1 hz with rfl | hz
    ·exact hl
    ·exact Int.lt_trans hl (h'.1 z hz), h⟩
  ·rename_i hl
   refine List.pairwise_cons.2 ⟨fun z hz => ?_, insK_up x l h'.2 fun z hz => hx z (List.mem_cons_of_mem _ hz)⟩
   rcases List.mem_cons.1 ((insK_perm f x l).mem_iff.1 hz) with rfl | hz
   ·have := hx y (List.mem_cons_self ..)
    omega
   ·exact h'.1 z hz
theorem srt_up : ∀ l : List α, (l.map f).Nodup -> Up f (srt f l)
 | [], _ => by simp [srt]
 | x :: l, h => by
  have h' := List.nodup_cons.1 h
  refine insK_up f x (srt f l) (srt_up l h'.2) fun y hy e => h'.1 ?_
  rw [e]
  exact List.mem_map_of_mem ((srt_perm f l).mem_iff.1 hy)
variable {f}
theorem up_unique : ∀ {l m : List α}, l.Perm m -> Up f l -> Up f m -> l = m
 | [], m, h, _, _ => (List.nil_perm.1 h).symm
 | x :: l, [], h, _, _ => by simp at h
 | x :: l, y :: m, h, hl, hm => by
  have hl' := List.pairwise_cons.1 hl
  have hm' := List.pairwise_cons.1 hm
  have e : x = y := by
   rcases List.mem_cons.1 (h.mem_iff.1 (List.mem_cons_self ..)) with e | e
   ·exact e
   ·rcases List.mem_cons.1 (h.mem_iff.2 (List.mem_cons_self ..)) with e' | e'
    ·exact e'.symm
    ·have := hm'.1 x e
     have := hl'.1 y e'
     omega
  subst e
  rw [up_unique (List.perm_cons x |>.1 h) hl'.2 hm'.2]
abbrev down (l : List α) (x : α) (j : Nat) : List α := l.take j ++ x :: l.drop j
end
end Go.Mark
namespace Go.Mark
open Go.RowKit Go.Proofs
def putL (xs : List Value) : Nat -> List Value -> List Value
 | _, [] => xs
 | o, u :: l => putL (xs.set o u) (o + 1) l
theorem putL_right : ∀ (l a xs : List Value) (o : Nat), putL (a ++ xs) (a.length + o) l = a ++ putL xs o l
 | [], _, _, _ => rfl
 | u :: l, a, xs, o => by
  rw [putL, putL, List.set_append_right _ _ (by omega), Nat.add_sub_cancel_left, Nat.add_assoc, putL_right l]
theorem own_put {base size n g cap : Nat} {e : TypeId} : ∀ (l : List Value) (W : World) (xs : List Value) (o : Nat), W.ownsRow base e size (.slice (some ⟨g, 0, none⟩) n cap) n xs -> (W.setCells g o l).ownsRow base e size (.slice (some ⟨g, 0, none⟩) n cap) n (putL xs o l) /\ W.grownBy (W.setCells g o l) (some g)
 | [], W, xs, o, h => ⟨h, gb_refl W _⟩
 | u :: l, W, xs, o, h => by
  have h1 := h.stored o u
  have h2 := own_put l _ _ (o + 1) h1.1
  exact ⟨h2.1, h1.2.trans h2.2⟩
theorem flatA_len : ∀ l : List (AccD × SV), (flatA l).length = l.length * 8
 | [] => rfl
 | p :: l => by rw [flatA, List.length_append, flatA_len l, List.length_cons]; show 8 + _ = _; omega
def sK (d : AccD) : AccD := { d with slots := srt (fun q => (q.1 : Int)) d.slots }
def told (ds : List AccD) : List AccD := srt (·.id) (ds.map sK)
end Go.Mark
set_option maxRecDepth 100000
set_option maxHeartbeats 4000000
namespace Go.Mark
open Go.RowKit Go.Proofs
variable [BaseB]
attribute [local go_sem] wd
theorem layOn_push {W : World} {f : Nat} {F : Frm} {sv : SV} {S : List Nat} (hf : W.heap[f]? = some (.cells (frC F sv) 225 (0, 0))) (hs : Stk W sv S) (hS : S.length < 99999) (p : Nat) (hpl : F.place = (p : Int)) (hnx : F.next = (p : Int) + 2) (hp : p < 1000000) (x : UInt8) (hx : F.text.data[p + 1]? = some x) :
  Calls TryQ.prog 307 #[.pointer (some ⟨f, 0, none⟩), .int .u8 96] W fun e w' => ∃ sv' : SV, e = .returned (.tuple #[]) /\ w'.heap[f]? = some (.cells (frC F sv') 225 (0, 0)) /\ Stk w' sv' (S ++ [x.toNat]) /\ Pres [f] [41] W w' := by
 go_enter TryQ.func307, Tryz.ntmps307
 go_wp2_with fail
 refine wp_region_held_drew (S := fun V => True) (by kernel_rfl) trivial (fun hH => ?_)
 refine td (i := 0) (d := some 36) (v := .pointer (some ⟨f, 0, none⟩)) rfl rfl (fun V hW => ?_) hH ?_
 ·clear hW hH
  go_simp
 refine td (i := 1) (d := some 37) (v := .pointer (some ⟨f, 0, none⟩)) rfl rfl (fun V hW => ?_) hH ?_
 ·clear hW hH
  go_simp
 refine td (i := 2) (d := some 38) (v := .pointer (some ⟨f, 14, none⟩)) rfl rfl (fun V hW => ?_) hH ?_
 ·clear hW hH
  go_simp
 refine td (i := 3) (d := some 39) (v := .pointer (some ⟨f, 0, none⟩)) rfl rfl (fun V hW => ?_) hH ?_
 ·clear hW hH
  go_simp
 refine r1 (i := 4) rfl (fun K hK => ?_)
 go_simp
 refine (pushed337 (W := W.drew) hf p hpl hnx hp x hx).mono ?_
 rintro e W1 ⟨rfl, hb1⟩
 go_wp2_with fail
 refine hK.out _ _ trivial (fun hH => ?_)
 clear hK K
 have hbA : Below W.heap.size W W1 := (Below.refl _ _).drew.trans hb1
 have hf1 := (hbA.block _ (blk_lt hf)).trans hf
 have hs1 := hs.below hbA
 refine r1 (i := 5) rfl (fun K hK => ?_)
 go_simp
 refine (lay300 (o := 14) hs1 hf1 (frC_at14 F sv) (by decide) x.toNat hS).mono ?_
 rintro e W2 ⟨sv', rfl, hf2, hs2, hp2⟩
 go_wp2_with fail
 refine hK.out _ _ trivial (fun hH => ?_)
 clear hK K
 refine wpAnyH_done (by kernel_rfl) ?_ _
 go_wp2
 simp [bodyPost, results, Tryz.results307, go_sem]
 exact ⟨sv', hf2, hs2, Pres.trans (.of_below hbA _ _) hp2⟩
theorem layOn_sub {W : World} {f : Nat} {F : Frm} {sv : SV} {T : List Nat} {x y : Nat} (hf : W.heap[f]? = some (.cells (frC F sv) 225 (0, 0))) (hs : Stk W sv (T ++ [y] ++ [x])) (hT : T.length < 99999) (hx : x < M) (hy : y < M) :
  Calls TryQ.prog 307 #[.pointer (some ⟨f, 0, none⟩), .int .u8 2] W fun e w' => ∃ sv' : SV, e = .returned (.tuple #[]) /\ w'.heap[f]? = some (.cells (frC F sv') 225 (0, 0)) /\ Stk w' sv' (T ++ [(x + M - y) % M]) /\ Pres [f] [41] W w' := by
 go_enter TryQ.func307, Tryz.ntmps307
 go_wp2_with fail
 refine wp_region_held_drew (S := fun V => True) (by kernel_rfl) trivial (fun hH => ?_)
 refine td (i := 0) (d := some 16) (v := .pointer (some ⟨f, 0, none⟩)) rfl rfl (fun V hW => ?_) hH ?_
 ·clear hW hH
  go_simp
 refine td (i := 1) (d := some 17) (v := .pointer (some ⟨f, 0, none⟩)) rfl rfl (fun V hW => ?_) hH ?_
 ·clear hW hH
  go_simp
 refine td (i := 2) (d := some 18) (v := .pointer (some ⟨f, 14, none⟩)) rfl rfl (fun V hW => ?_) hH ?_
 ·clear hW hH
  go_simp
 refine td (i := 3) (d := some 19) (v := .pointer (some ⟨f, 0, none⟩)) rfl rfl (fun V hW => ?_) hH ?_
 ·clear hW hH
  go_simp
 refine td (i := 4) (d := some 20) (v := .int .u8 2) rfl rfl (fun V hW => ?_) hH ?_
 ·clear hW hH
  go_simp
 refine r1 (i := 5) rfl (fun K hK => ?_)
 go_simp
 refine (work2 (W := W.drew) hf (hs.below (Below.refl _ _).drew) hx hy).mono ?_
 rintro e W1 ⟨sv1, rfl, hf1, hs1, hp1⟩
 go_wp2_with fail
 refine hK.out _ _ trivial (fun hH => ?_)
 clear hK K
 refine r1 (i := 6) rfl (fun K hK => ?_)
 go_simp
 refine (lay300 (o := 14) hs1 hf1 (frC_at14 F sv1) (by decide) ((x + M - y) % M) hT).mono ?_
 rintro e W2 ⟨sv', rfl, hf2, hs2, hp2⟩
 go_wp2_with fail
 refine hK.out _ _ trivial (fun hH => ?_)
 clear hK K
 refine wpAnyH_done (by kernel_rfl) ?_ _
 go_wp2
 simp [bodyPost, results, Tryz.results307, go_sem]
 exact ⟨sv', hf2, hs2, Pres.trans (.of_below (Below.refl _ _).drew _ _) (Pres.trans (hp1.mono (fun _ _ h => h) (fun t h => by cases h)) hp2)⟩
theorem layOn_dup {W : World} {f : Nat} {F : Frm} {sv : SV} {T : List Nat} {x : Nat} (hf : W.heap[f]? = some (.cells (frC F sv) 225 (0, 0))) (hs : Stk W sv (T ++ [x])) (hT : (T ++ [x]).length < 99999) :
  Calls TryQ.prog 307 #[.pointer (some ⟨f, 0, none⟩), .int .u8 128] W fun e w' => ∃ sv' : SV, e = .returned (.tuple #[]) /\ w'.heap[f]? = some (.cells (frC F sv') 225 (0, 0)) /\ Stk w' sv' (T ++ [x] ++ [x]) /\ Pres [f] [41] W w' := by
 have hat := at319 (hs.below (Below.refl W.heap.size W).drew) 1 (by omega) (j := T.length) (x := x) (by simp) (by simp)
 rw [show ((1 : Nat) : Int) = 1 from rfl] at hat
 have c14 := blk_cell hf 14
 rw [frC_at14] at c14
 have hw0 : IntKind.i64.wrap 0 = 0 := by decide
 have hw1 : IntKind.i64.wrap 1 = 1 := by decide
 have hw2 : IntKind.u8.wrap 0 = 0 := by decide
 go_enter TryQ.func307, Tryz.ntmps307
 go_wp2_with fail
 refine wp_region_held_drew (S := fun V => True) (by kernel_rfl) trivial (fun hH => ?_)
 refine td (i := 0) (d := some 45) (v := .pointer (some ⟨f, 0, none⟩)) rfl rfl (fun V hW => ?_) hH ?_
 ·clear hW hH
  go_simp
 refine td (i := 1) (d := some 46) (v := .pointer (some ⟨f, 0, none⟩)) rfl rfl (fun V hW => ?_) hH ?_
 ·clear hW hH
  go_simp
 refine td (i := 2) (d := some 47) (v := .pointer (some ⟨f, 14, none⟩)) rfl rfl (fun V hW => ?_) hH ?_
 ·clear hW hH
  go_simp
 refine td (i := 3) (d := some 48) (v := .pointer (some ⟨f, 0, none⟩)) rfl rfl (fun V hW => ?_) hH ?_
 ·clear hW hH
  go_simp
 refine td (i := 4) (d := some 49) (v := .pointer (some ⟨f, 0, none⟩)) rfl rfl (fun V hW => ?_) hH ?_
 ·clear hW hH
  go_simp
 refine td (i := 5) (d := some 50) (v := .pointer (some ⟨f, 14, none⟩)) rfl rfl (fun V hW => ?_) hH ?_
 ·clear hW hH
  go_simp
 refine td (i := 7) (d := some 52) (v := .int .u8 128) rfl rfl (fun V hW => ?_) hH ?_
 ·clear hW hH
  go_simp
 refine td (i := 8) (d := some 53) (v := .int .u8 0) rfl rfl (fun V hW => ?_) hH ?_
 ·clear hW hH
  go_simp
 refine td (i := 9) (d := some 54) (v := .int .i64 0) rfl rfl (fun V hW => ?_) hH ?_
 ·clear hW hH
  go_simp
 refine td (i := 10) (d := some 55) (v := .int .i64 1) rfl rfl (fun V hW => ?_) hH ?_
 ·clear hW hH
  go_simp
 refine r1 (i := 6) rfl (fun K hK => ?_)
 go_simp
 refine hK.out _ _ trivial (fun hH => ?_)
 clear hK K
 refine r1 (i := 11) rfl (fun K hK => ?_)
 go_simp
 refine hat.mono ?_
 rintro e W1 ⟨rfl, hb1⟩
 go_wp2_with fail
 refine hK.out _ _ trivial (fun hH => ?_)
 clear hK K
 have hbA : Below W.heap.size W W1 := (Below.refl _ _).drew.trans hb1
 have hf1 := (hbA.block _ (blk_lt hf)).trans hf
 have hs1 := hs.below hbA
 refine r1 (i := 12) rfl (fun K hK => ?_)
 go_simp
 refine (lay300 (o := 14) hs1 hf1 (frC_at14 F sv) (by decide) x hT).mono ?_
 rintro e W2 ⟨sv', rfl, hf2, hs2, hp2⟩
 go_wp2_with fail
 refine hK.out _ _ trivial (fun hH => ?_)
 clear hK K
 refine wpAnyH_done (by kernel_rfl) ?_ _
 go_wp2
 simp [bodyPost, results, Tryz.results307, go_sem]
 exact ⟨sv', hf2, by simpa using hs2, Pres.trans (.of_below hbA _ _) hp2⟩
end Go.Mark
