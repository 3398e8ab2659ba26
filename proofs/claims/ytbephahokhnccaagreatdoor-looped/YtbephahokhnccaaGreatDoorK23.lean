import Derived.Test.YtbephahokhnccaaGreatDoorXK21toK22
set_option linter.unusedSectionVars false
set_option maxRecDepth 100000
set_option maxHeartbeats 8000000
namespace Go.Mark
open Go.RowKit Go.Proofs
variable [BaseB]
attribute [local go_sem] wd
structure Took (W V : World) (f : Nat) (F : Frm) (T : List Nat) (x y b7 b8 : Nat) : Prop where
 fr : ∃ sv, V.heap[f]? = some (.cells (frC F sv) 225 (0, 0)) /\ Stk V sv T
 h7 : V.heap[b7]? = some (.cells #[.int .u64 (lim x 0), .int .u64 (lim x 1), .int .u64 (lim x 2), .int .u64 (lim x 3)] 41 (0, 0))
 h8 : V.heap[b8]? = some (.cells #[.int .u64 (lim y 0), .int .u64 (lim y 1), .int .u64 (lim y 2), .int .u64 (lim y 3)] 41 (0, 0))
 p : Pres [f] [] W V
theorem took_end {W w : World} {f : Nat} {F : Frm} {sv0 : SV} {T S0 : List Nat} {x y b7 b8 : Nat} (hn7 : b7 ≠ f) (hn8 : b8 ≠ f) (hg7 : W.heap.size <= b7) (hg8 : W.heap.size <= b8) (h78 : b7 ≠ b8) (hs0 : Stk W sv0 S0) (hf : w.heap[f]? = some (.cells (frC F ⟨sv0.a, T.length, sv0.c⟩) 225 (0, 0))) (hs : Stk w ⟨sv0.a, T.length, sv0.c⟩ T) (hp : Pres [f] [] W w) (h7 : w.heap[b7]? = some (.cells #[.int .u64 0, .int .u64 0, .int .u64 0, .int .u64 0] 41 (0, 0))) (h8 : w.heap[b8]? = some (.cells #[.int .u64 0, .int .u64 0, .int .u64 0, .int .u64 0] 41 (0, 0))) :
  Took W (((((((((w).setCell ⟨b7, 0, none⟩ (.int .u64 (lim x 0))).setCell ⟨b7, 1, none⟩ (.int .u64 (lim x 1))).setCell ⟨b7, 2, none⟩ (.int .u64 (lim x 2))).setCell ⟨b7, 3, none⟩ (.int .u64 (lim x 3))).setCell ⟨b8, 0, none⟩ (.int .u64 (lim y 0))).setCell ⟨b8, 1, none⟩ (.int .u64 (lim y 1))).setCell ⟨b8, 2, none⟩ (.int .u64 (lim y 2))).setCell ⟨b8, 3, none⟩ (.int .u64 (lim y 3))) f F T x y b7 b8 := by
 have a7 := blk_set4 (.int .u64 (lim x 0)) (.int .u64 (lim x 1)) (.int .u64 (lim x 2)) (.int .u64 (lim x 3)) h7
 have p7 := pres_set4 w b7 (.int .u64 (lim x 0)) (.int .u64 (lim x 1)) (.int .u64 (lim x 2)) (.int .u64 (lim x 3))
 have a8 := p7.obj h8 (by show (41 : Nat) ∉ []; simp) (by simpa using Ne.symm h78)
 have f7 := p7.obj hf (by show (225 : Nat) ∉ []; simp) (by simpa using Ne.symm hn7)
 generalize ((((w).setCell ⟨b7, 0, none⟩ (.int .u64 (lim x 0))).setCell ⟨b7, 1, none⟩ (.int .u64 (lim x 1))).setCell ⟨b7, 2, none⟩ (.int .u64 (lim x 2))).setCell ⟨b7, 3, none⟩ (.int .u64 (lim x 3)) = v at a7 p7 a8 f7 ⊢
 have a9 := blk_set4 (.int .u64 (lim y 0)) (.int .u64 (lim y 1)) (.int .u64 (lim y 2)) (.int .u64 (lim y 3)) a8
 have p9 := pres_set4 v b8 (.int .u64 (lim y 0)) (.int .u64 (lim y 1)) (.int .u64 (lim y 2)) (.int .u64 (lim y 3))
 have a10 := p9.obj a7 (by show (41 : Nat) ∉ []; simp) (by simpa using h78)
 have f9 := p9.obj f7 (by show (225 : Nat) ∉ []; simp) (by simpa using Ne.symm hn8)
 have hpp := (hp.thenx p7 (by simp; omega)).thenx p9 (by simp; omega)
 refine ⟨⟨_, f9, ⟨own_same hs.own fun g hg => ?_, hs.num, Nat.le_trans hs0.low hpp.size⟩⟩, a10, a9, hpp⟩
 have hgl : g < W.heap.size := own_lt hs0.own g ((ownBlock_eq _ _ _ _ _).trans hg)
 have hgw := own_lt hs.own g hg
 rcases p7.block g hgw (by simp; omega) with e | ⟨_, _, _, h0, _⟩
 ·rcases p9.block g (Nat.lt_of_lt_of_le hgw p7.size) (by simp; omega) with e' | ⟨_, _, _, h0, _⟩
  ·exact e'.trans e
  ·cases h0
 ·cases h0
theorem do_jumpIf {W : World} {f : Nat} {F : Frm} {sv : SV} {T : List Nat} {x y : Nat} (hf : W.heap[f]? = some (.cells (frC F sv) 225 (0, 0))) (hs : Stk W sv (T ++ [y] ++ [x])) (hy : y < M) (mb mn mcap : Nat) (hmk : F.mark = ⟨some ⟨mb, 0, none⟩, mn, mcap⟩) (hmn : mn < 1000000) (hx : x < mn) (hmb : mb < W.heap.size) (hmf : mb ≠ f) (hm : W.cell? ⟨mb, x, none⟩ = some (.bool true)) :
  Calls TryQ.prog 263 #[.pointer (some ⟨f, 0, none⟩), .int .u8 47] W fun e w' => ∃ sv' : SV, e = .returned .nilIface /\ w'.heap[f]? = some (.cells (frC { F with next := if y = 0 then F.next else (x : Int) } sv') 225 (0, 0)) /\ Stk w' sv' T /\ Pres [f] [41] W w' := by
 obtain ⟨nx, hnx⟩ : ∃ nx, (if y = 0 then F.next else (x : Int)) = nx := ⟨_, rfl⟩
 rw [hnx]
 go_enter TryQ.func263, Tryz.ntmps263
 go_wp2_with fail
 refine wp_meet2 (fun b7 b8 V => Took W V f F T x y b7 b8) ?_
 apply Exists.intro
 apply And.intro
 ·skip
  refine wp_region_held_drew (S := fun V => True) (by kernel_rfl) trivial (fun hH => ?_)
  refine td (i := 0) (d := some 46) (v := .pointer (some ⟨f, 0, none⟩)) rfl rfl (fun V hW => ?_) hH ?_
  ·clear hW hH
   go_simp
  refine td (i := 1) (d := some 47) (v := .pointer (some ⟨f, 0, none⟩)) rfl rfl (fun V hW => ?_) hH ?_
  ·clear hW hH
   go_simp
  refine td (i := 2) (d := some 48) (v := .pointer (some ⟨f, 14, none⟩)) rfl rfl (fun V hW => ?_) hH ?_
  ·clear hW hH
   go_simp
  refine td (i := 4) (d := some 50) (v := .pointer (some ⟨f, 0, none⟩)) rfl rfl (fun V hW => ?_) hH ?_
  ·clear hW hH
   go_simp
  refine td (i := 5) (d := some 51) (v := .pointer (some ⟨f, 0, none⟩)) rfl rfl (fun V hW => ?_) hH ?_
  ·clear hW hH
   go_simp
  refine td (i := 6) (d := some 52) (v := .pointer (some ⟨f, 14, none⟩)) rfl rfl (fun V hW => ?_) hH ?_
  ·clear hW hH
   go_simp
  have hfw0 : W.drew.heap[f]? = some (.cells (frC F sv) 225 (0, 0)) := hf
  have hsw0 := hs.below (Below.refl W.heap.size W).drew
  have hpw0 : Pres [f] [] W W.drew := .of_below (Below.refl _ _).drew _ _
  generalize W.drew = w0 at hfw0 hsw0 hpw0 ⊢
  refine wpAnyH_ready (rs := [3, 8, 9]) (by kernel_rfl) (by simp) ?_
  refine AllReadyH.cons rfl (fun K hK => ?_) (AllReadyH.cons rfl (fun K hK => ?_) (AllReadyH.cons rfl (fun K hK => ?_) (AllReadyH.nil)))
  ·skip
   go_simp
   refine (take296 (o := 14) hsw0 hfw0 (frC_at14 F _) (by decide)).mono ?_
   rintro e w1 ⟨rfl, hq, hsw1, hp⟩
   go_wp2_with fail
   refine hK.out _ _ trivial (fun hH => ?_)
   clear hK K
   have hfw1 : w1.heap[f]? = some (.cells (frC F ⟨sv.a, (T ++ [y]).length, sv.c⟩) 225 (0, 0)) := hq
   have hpw1 := hpw0.thenx hp (by simp)
   clear hp hq
   refine wpAnyH_ready (rs := [7, 8, 9]) (by kernel_rfl) (by simp) ?_
   refine AllReadyH.cons rfl (fun K hK => ?_) (AllReadyH.cons rfl (fun K hK => ?_) (AllReadyH.cons rfl (fun K hK => ?_) (AllReadyH.nil)))
   ·skip
    go_simp
    refine (take296 (o := 14) hsw1 hfw1 (frC_at14 F _) (by decide)).mono ?_
    rintro e w2 ⟨rfl, hq, hsw2, hp⟩
    go_wp2_with fail
    refine hK.out _ _ trivial (fun hH => ?_)
    clear hK K
    have hfw2 : w2.heap[f]? = some (.cells (frC F ⟨sv.a, T.length, sv.c⟩) 225 (0, 0)) := hq
    have hpw2 := hpw1.thenx hp (by simp)
    clear hp hq
    refine wpAnyH_ready (rs := [8, 9]) (by kernel_rfl) (by simp) ?_
    refine AllReadyH.cons rfl (fun K hK => ?_) (AllReadyH.cons rfl (fun K hK => ?_) (AllReadyH.nil))
    ·skip
     go_simp
     obtain ⟨b7, hb7⟩ : ∃ b7, w2.heap.size = b7 := ⟨_, rfl⟩
     have h7w3 := blk_new w2 (.cells #[.int .u64 0, .int .u64 0, .int .u64 0, .int .u64 0] 41)
     have hbw : Below w2.heap.size w2 (w2.alloc (.cells #[.int .u64 0, .int .u64 0, .int .u64 0, .int .u64 0] 41)) := ba
     rw [hb7] at h7w3 ⊢
     have hfw3 := blk_alloc (p := .cells #[.int .u64 0, .int .u64 0, .int .u64 0, .int .u64 0] 41) hfw2
     have hsw3 := hsw2.below hbw
     have hpw3 := hpw2.trans (.of_below hbw _ _)
     have hn7 : b7 ≠ f := by have := blk_lt hfw2; omega
     have hg7 : W.heap.size <= b7 := by have := hpw2.size; omega
     refine hK.out _ _ trivial (fun hH => ?_)
     clear hK K hbw
     generalize w2.alloc (.cells #[.int .u64 0, .int .u64 0, .int .u64 0, .int .u64 0] 41) = w3 at hfw3 hsw3 hpw3 h7w3 ⊢
     refine r1 (i := 9) rfl (fun K hK => ?_)
     ·skip
      go_simp
      obtain ⟨b8, hb8⟩ : ∃ b8, w3.heap.size = b8 := ⟨_, rfl⟩
      have h8w4 := blk_new w3 (.cells #[.int .u64 0, .int .u64 0, .int .u64 0, .int .u64 0] 41)
      have hbw : Below w3.heap.size w3 (w3.alloc (.cells #[.int .u64 0, .int .u64 0, .int .u64 0, .int .u64 0] 41)) := ba
      rw [hb8] at h8w4 ⊢
      have hfw4 := blk_alloc (p := .cells #[.int .u64 0, .int .u64 0, .int .u64 0, .int .u64 0] 41) hfw3
      have hsw4 := hsw3.below hbw
      have hpw4 := hpw3.trans (.of_below hbw _ _)
      have hn8 : b8 ≠ f := by have := blk_lt hfw3; omega
      have hg8 : W.heap.size <= b8 := by have := hpw3.size; omega
      have h7w4 := blk_alloc (p := .cells #[.int .u64 0, .int .u64 0, .int .u64 0, .int .u64 0] 41) h7w3
      have h78 : b7 ≠ b8 := by have := blk_lt h7w3; omega
      refine hK.out _ _ trivial (fun hH => ?_)
      clear hK K hbw
      generalize w3.alloc (.cells #[.int .u64 0, .int .u64 0, .int .u64 0, .int .u64 0] 41) = w4 at hfw4 hsw4 hpw4 h7w4 h8w4 ⊢
      have c0 := blk_cell h7w4 0
      have c1 := blk_cell h7w4 1
      have c2 := blk_cell h7w4 2
      have c3 := blk_cell h7w4 3
      simp only [List.getElem?_toArray, List.getElem?_cons_zero, List.getElem?_cons_succ] at c0 c1 c2 c3
      have d0 := blk_fz h7w4 0
      have d1 := blk_fz h7w4 1
      have d2 := blk_fz h7w4 2
      have d3 := blk_fz h7w4 3
      have e0 := blk_cell h8w4 0
      have e1 := blk_cell h8w4 1
      have e2 := blk_cell h8w4 2
      have e3 := blk_cell h8w4 3
      simp only [List.getElem?_toArray, List.getElem?_cons_zero, List.getElem?_cons_succ] at e0 e1 e2 e3
      have g0 := blk_fz h8w4 0
      have g1 := blk_fz h8w4 1
      have g2 := blk_fz h8w4 2
      have g3 := blk_fz h8w4 3
      have h87 := Ne.symm h78
      refine r1 (i := 10) rfl (fun K hK => ?_)
      go_simp
      refine hK.out _ _ trivial (fun hH => ?_)
      clear hK K
      refine r1 (i := 11) rfl (fun K hK => ?_)
      go_simp
      refine hK.out _ _ trivial (fun hH => ?_)
      clear hK K
      refine wpAnyH_done (by kernel_rfl) ?_ _
      exact ⟨rfl, b7, b8, rfl, took_end hn7 hn8 hg7 hg8 h78 hs hfw4 hsw4 hpw4 h7w4 h8w4⟩
    ·skip
     go_simp
     obtain ⟨b8, hb8⟩ : ∃ b8, w2.heap.size = b8 := ⟨_, rfl⟩
     have h8w5 := blk_new w2 (.cells #[.int .u64 0, .int .u64 0, .int .u64 0, .int .u64 0] 41)
     have hbw : Below w2.heap.size w2 (w2.alloc (.cells #[.int .u64 0, .int .u64 0, .int .u64 0, .int .u64 0] 41)) := ba
     rw [hb8] at h8w5 ⊢
     have hfw5 := blk_alloc (p := .cells #[.int .u64 0, .int .u64 0, .int .u64 0, .int .u64 0] 41) hfw2
     have hsw5 := hsw2.below hbw
     have hpw5 := hpw2.trans (.of_below hbw _ _)
     have hn8 : b8 ≠ f := by have := blk_lt hfw2; omega
     have hg8 : W.heap.size <= b8 := by have := hpw2.size; omega
     refine hK.out _ _ trivial (fun hH => ?_)
     clear hK K hbw
     generalize w2.alloc (.cells #[.int .u64 0, .int .u64 0, .int .u64 0, .int .u64 0] 41) = w5 at hfw5 hsw5 hpw5 h8w5 ⊢
     refine r1 (i := 8) rfl (fun K hK => ?_)
     ·skip
      go_simp
      obtain ⟨b7, hb7⟩ : ∃ b7, w5.heap.size = b7 := ⟨_, rfl⟩
      have h7w6 := blk_new w5 (.cells #[.int .u64 0, .int .u64 0, .int .u64 0, .int .u64 0] 41)
      have hbw : Below w5.heap.size w5 (w5.alloc (.cells #[.int .u64 0, .int .u64 0, .int .u64 0, .int .u64 0] 41)) := ba
      rw [hb7] at h7w6 ⊢
      have hfw6 := blk_alloc (p := .cells #[.int .u64 0, .int .u64 0, .int .u64 0, .int .u64 0] 41) hfw5
      have hsw6 := hsw5.below hbw
      have hpw6 := hpw5.trans (.of_below hbw _ _)
      have hn7 : b7 ≠ f := by have := blk_lt hfw5; omega
      have hg7 : W.heap.size <= b7 := by have := hpw5.size; omega
      have h8w6 := blk_alloc (p := .cells #[.int .u64 0, .int .u64 0, .int .u64 0, .int .u64 0] 41) h8w5
      have h78 : b7 ≠ b8 := by have := blk_lt h8w5; omega
      refine hK.out _ _ trivial (fun hH => ?_)
      clear hK K hbw
      generalize w5.alloc (.cells #[.int .u64 0, .int .u64 0, .int .u64 0, .int .u64 0] 41) = w6 at hfw6 hsw6 hpw6 h7w6 h8w6 ⊢
      have c0 := blk_cell h7w6 0
      have c1 := blk_cell h7w6 1
      have c2 := blk_cell h7w6 2
      have c3 := blk_cell h7w6 3
      simp only [List.getElem?_toArray, List.getElem?_cons_zero, List.getElem?_cons_succ] at c0 c1 c2 c3
      have d0 := blk_fz h7w6 0
      have d1 := blk_fz h7w6 1
      have d2 := blk_fz h7w6 2
      have d3 := blk_fz h7w6 3
      have e0 := blk_cell h8w6 0
      have e1 := blk_cell h8w6 1
      have e2 := blk_cell h8w6 2
      have e3 := blk_cell h8w6 3
      simp only [List.getElem?_toArray, List.getElem?_cons_zero, List.getElem?_cons_succ] at e0 e1 e2 e3
      have g0 := blk_fz h8w6 0
      have g1 := blk_fz h8w6 1
      have g2 := blk_fz h8w6 2
      have g3 := blk_fz h8w6 3
      have h87 := Ne.symm h78
      refine r1 (i := 10) rfl (fun K hK => ?_)
      go_simp
      refine hK.out _ _ trivial (fun hH => ?_)
      clear hK K
      refine r1 (i := 11) rfl (fun K hK => ?_)
      go_simp
      refine hK.out _ _ trivial (fun hH => ?_)
      clear hK K
      refine wpAnyH_done (by kernel_rfl) ?_ _
      exact ⟨rfl, b7, b8, rfl, took_end hn7 hn8 hg7 hg8 h78 hs hfw6 hsw6 hpw6 h7w6 h8w6⟩
   ·skip
    go_simp
    obtain ⟨b7, hb7⟩ : ∃ b7, w1.heap.size = b7 := ⟨_, rfl⟩
    have h7w7 := blk_new w1 (.cells #[.int .u64 0, .int .u64 0, .int .u64 0, .int .u64 0] 41)
    have hbw : Below w1.heap.size w1 (w1.alloc (.cells #[.int .u64 0, .int .u64 0, .int .u64 0, .int .u64 0] 41)) := ba
    rw [hb7] at h7w7 ⊢
    have hfw7 := blk_alloc (p := .cells #[.int .u64 0, .int .u64 0, .int .u64 0, .int .u64 0] 41) hfw1
    have hsw7 := hsw1.below hbw
    have hpw7 := hpw1.trans (.of_below hbw _ _)
    have hn7 : b7 ≠ f := by have := blk_lt hfw1; omega
    have hg7 : W.heap.size <= b7 := by have := hpw1.size; omega
    refine hK.out _ _ trivial (fun hH => ?_)
    clear hK K hbw
    generalize w1.alloc (.cells #[.int .u64 0, .int .u64 0, .int .u64 0, .int .u64 0] 41) = w7 at hfw7 hsw7 hpw7 h7w7 ⊢
    refine wpAnyH_ready (rs := [7, 9]) (by kernel_rfl) (by simp) ?_
    refine AllReadyH.cons rfl (fun K hK => ?_) (AllReadyH.cons rfl (fun K hK => ?_) (AllReadyH.nil))
    ·skip
     go_simp
     refine (take296 (o := 14) hsw7 hfw7 (frC_at14 F _) (by decide)).mono ?_
     rintro e w8 ⟨rfl, hq, hsw8, hp⟩
     go_wp2_with fail
     refine hK.out _ _ trivial (fun hH => ?_)
     clear hK K
     have hfw8 : w8.heap[f]? = some (.cells (frC F ⟨sv.a, T.length, sv.c⟩) 225 (0, 0)) := hq
     have hpw8 := hpw7.thenx hp (by simp)
     have h7w8 := hp.obj h7w7 (by show (41 : Nat) ∉ []; simp) (by simpa using hn7)
     clear hp hq
     refine r1 (i := 9) rfl (fun K hK => ?_)
     ·skip
      go_simp
      obtain ⟨b8, hb8⟩ : ∃ b8, w8.heap.size = b8 := ⟨_, rfl⟩
      have h8w9 := blk_new w8 (.cells #[.int .u64 0, .int .u64 0, .int .u64 0, .int .u64 0] 41)
      have hbw : Below w8.heap.size w8 (w8.alloc (.cells #[.int .u64 0, .int .u64 0, .int .u64 0, .int .u64 0] 41)) := ba
      rw [hb8] at h8w9 ⊢
      have hfw9 := blk_alloc (p := .cells #[.int .u64 0, .int .u64 0, .int .u64 0, .int .u64 0] 41) hfw8
      have hsw9 := hsw8.below hbw
      have hpw9 := hpw8.trans (.of_below hbw _ _)
      have hn8 : b8 ≠ f := by have := blk_lt hfw8; omega
      have hg8 : W.heap.size <= b8 := by have := hpw8.size; omega
      have h7w9 := blk_alloc (p := .cells #[.int .u64 0, .int .u64 0, .int .u64 0, .int .u64 0] 41) h7w8
      have h78 : b7 ≠ b8 := by have := blk_lt h7w8; omega
      refine hK.out _ _ trivial (fun hH => ?_)
      clear hK K hbw
      generalize w8.alloc (.cells #[.int .u64 0, .int .u64 0, .int .u64 0, .int .u64 0] 41) = w9 at hfw9 hsw9 hpw9 h7w9 h8w9 ⊢
      have c0 := blk_cell h7w9 0
      have c1 := blk_cell h7w9 1
      have c2 := blk_cell h7w9 2
      have c3 := blk_cell h7w9 3
      simp only [List.getElem?_toArray, List.getElem?_cons_zero, List.getElem?_cons_succ] at c0 c1 c2 c3
      have d0 := blk_fz h7w9 0
      have d1 := blk_fz h7w9 1
      have d2 := blk_fz h7w9 2
      have d3 := blk_fz h7w9 3
      have e0 := blk_cell h8w9 0
      have e1 := blk_cell h8w9 1
      have e2 := blk_cell h8w9 2
      have e3 := blk_cell h8w9 3
      simp only [List.getElem?_toArray, List.getElem?_cons_zero, List.getElem?_cons_succ] at e0 e1 e2 e3
      have g0 := blk_fz h8w9 0
      have g1 := blk_fz h8w9 1
      have g2 := blk_fz h8w9 2
      have g3 := blk_fz h8w9 3
      have h87 := Ne.symm h78
      refine r1 (i := 10) rfl (fun K hK => ?_)
      go_simp
      refine hK.out _ _ trivial (fun hH => ?_)
      clear hK K
      refine r1 (i := 11) rfl (fun K hK => ?_)
      go_simp
      refine hK.out _ _ trivial (fun hH => ?_)
      clear hK K
      refine wpAnyH_done (by kernel_rfl) ?_ _
      exact ⟨rfl, b7, b8, rfl, took_end hn7 hn8 hg7 hg8 h78 hs hfw9 hsw9 hpw9 h7w9 h8w9⟩
    ·skip
     go_simp
     obtain ⟨b8, hb8⟩ : ∃ b8, w7.heap.size = b8 := ⟨_, rfl⟩
     have h8w10 := blk_new w7 (.cells #[.int .u64 0, .int .u64 0, .int .u64 0, .int .u64 0] 41)
     have hbw : Below w7.heap.size w7 (w7.alloc (.cells #[.int .u64 0, .int .u64 0, .int .u64 0, .int .u64 0] 41)) := ba
     rw [hb8] at h8w10 ⊢
     have hfw10 := blk_alloc (p := .cells #[.int .u64 0, .int .u64 0, .int .u64 0, .int .u64 0] 41) hfw7
     have hsw10 := hsw7.below hbw
     have hpw10 := hpw7.trans (.of_below hbw _ _)
     have hn8 : b8 ≠ f := by have := blk_lt hfw7; omega
     have hg8 : W.heap.size <= b8 := by have := hpw7.size; omega
     have h7w10 := blk_alloc (p := .cells #[.int .u64 0, .int .u64 0, .int .u64 0, .int .u64 0] 41) h7w7
     have h78 : b7 ≠ b8 := by have := blk_lt h7w7; omega
     refine hK.out _ _ trivial (fun hH => ?_)
     clear hK K hbw
     generalize w7.alloc (.cells #[.int .u64 0, .int .u64 0, .int .u64 0, .int .u64 0] 41) = w10 at hfw10 hsw10 hpw10 h7w10 h8w10 ⊢
     refine r1 (i := 7) rfl (fun K hK => ?_)
     ·skip
      go_simp
      refine (take296 (o := 14) hsw10 hfw10 (frC_at14 F _) (by decide)).mono ?_
      rintro e w11 ⟨rfl, hq, hsw11, hp⟩
      go_wp2_with fail
      refine hK.out _ _ trivial (fun hH => ?_)
      clear hK K
      have hfw11 : w11.heap[f]? = some (.cells (frC F ⟨sv.a, T.length, sv.c⟩) 225 (0, 0)) := hq
      have hpw11 := hpw10.thenx hp (by simp)
      have h7w11 := hp.obj h7w10 (by show (41 : Nat) ∉ []; simp) (by simpa using hn7)
      have h8w11 := hp.obj h8w10 (by show (41 : Nat) ∉ []; simp) (by simpa using hn8)
      clear hp hq
      have c0 := blk_cell h7w11 0
      have c1 := blk_cell h7w11 1
      have c2 := blk_cell h7w11 2
      have c3 := blk_cell h7w11 3
      simp only [List.getElem?_toArray, List.getElem?_cons_zero, List.getElem?_cons_succ] at c0 c1 c2 c3
      have d0 := blk_fz h7w11 0
      have d1 := blk_fz h7w11 1
      have d2 := blk_fz h7w11 2
      have d3 := blk_fz h7w11 3
      have e0 := blk_cell h8w11 0
      have e1 := blk_cell h8w11 1
      have e2 := blk_cell h8w11 2
      have e3 := blk_cell h8w11 3
      simp only [List.getElem?_toArray, List.getElem?_cons_zero, List.getElem?_cons_succ] at e0 e1 e2 e3
      have g0 := blk_fz h8w11 0
      have g1 := blk_fz h8w11 1
      have g2 := blk_fz h8w11 2
      have g3 := blk_fz h8w11 3
      have h87 := Ne.symm h78
      refine r1 (i := 10) rfl (fun K hK => ?_)
      go_simp
      refine hK.out _ _ trivial (fun hH => ?_)
      clear hK K
      refine r1 (i := 11) rfl (fun K hK => ?_)
      go_simp
      refine hK.out _ _ trivial (fun hH => ?_)
      clear hK K
      refine wpAnyH_done (by kernel_rfl) ?_ _
      exact ⟨rfl, b7, b8, rfl, took_end hn7 hn8 hg7 hg8 h78 hs hfw11 hsw11 hpw11 h7w11 h8w11⟩
   ·skip
    go_simp
    obtain ⟨b8, hb8⟩ : ∃ b8, w1.heap.size = b8 := ⟨_, rfl⟩
    have h8w12 := blk_new w1 (.cells #[.int .u64 0, .int .u64 0, .int .u64 0, .int .u64 0] 41)
    have hbw : Below w1.heap.size w1 (w1.alloc (.cells #[.int .u64 0, .int .u64 0, .int .u64 0, .int .u64 0] 41)) := ba
    rw [hb8] at h8w12 ⊢
    have hfw12 := blk_alloc (p := .cells #[.int .u64 0, .int .u64 0, .int .u64 0, .int .u64 0] 41) hfw1
    have hsw12 := hsw1.below hbw
    have hpw12 := hpw1.trans (.of_below hbw _ _)
    have hn8 : b8 ≠ f := by have := blk_lt hfw1; omega
    have hg8 : W.heap.size <= b8 := by have := hpw1.size; omega
    refine hK.out _ _ trivial (fun hH => ?_)
    clear hK K hbw
    generalize w1.alloc (.cells #[.int .u64 0, .int .u64 0, .int .u64 0, .int .u64 0] 41) = w12 at hfw12 hsw12 hpw12 h8w12 ⊢
    refine wpAnyH_ready (rs := [7, 8]) (by kernel_rfl) (by simp) ?_
    refine AllReadyH.cons rfl (fun K hK => ?_) (AllReadyH.cons rfl (fun K hK => ?_) (AllReadyH.nil))
    ·skip
     go_simp
     refine (take296 (o := 14) hsw12 hfw12 (frC_at14 F _) (by decide)).mono ?_
     rintro e w13 ⟨rfl, hq, hsw13, hp⟩
     go_wp2_with fail
     refine hK.out _ _ trivial (fun hH => ?_)
     clear hK K
     have hfw13 : w13.heap[f]? = some (.cells (frC F ⟨sv.a, T.length, sv.c⟩) 225 (0, 0)) := hq
     have hpw13 := hpw12.thenx hp (by simp)
     have h8w13 := hp.obj h8w12 (by show (41 : Nat) ∉ []; simp) (by simpa using hn8)
     clear hp hq
     refine r1 (i := 8) rfl (fun K hK => ?_)
     ·skip
      go_simp
      obtain ⟨b7, hb7⟩ : ∃ b7, w13.heap.size = b7 := ⟨_, rfl⟩
      have h7w14 := blk_new w13 (.cells #[.int .u64 0, .int .u64 0, .int .u64 0, .int .u64 0] 41)
      have hbw : Below w13.heap.size w13 (w13.alloc (.cells #[.int .u64 0, .int .u64 0, .int .u64 0, .int .u64 0] 41)) := ba
      rw [hb7] at h7w14 ⊢
      have hfw14 := blk_alloc (p := .cells #[.int .u64 0, .int .u64 0, .int .u64 0, .int .u64 0] 41) hfw13
      have hsw14 := hsw13.below hbw
      have hpw14 := hpw13.trans (.of_below hbw _ _)
      have hn7 : b7 ≠ f := by have := blk_lt hfw13; omega
      have hg7 : W.heap.size <= b7 := by have := hpw13.size; omega
      have h8w14 := blk_alloc (p := .cells #[.int .u64 0, .int .u64 0, .int .u64 0, .int .u64 0] 41) h8w13
      have h78 : b7 ≠ b8 := by have := blk_lt h8w13; omega
      refine hK.out _ _ trivial (fun hH => ?_)
      clear hK K hbw
      generalize w13.alloc (.cells #[.int .u64 0, .int .u64 0, .int .u64 0, .int .u64 0] 41) = w14 at hfw14 hsw14 hpw14 h7w14 h8w14 ⊢
      have c0 := blk_cell h7w14 0
      have c1 := blk_cell h7w14 1
      have c2 := blk_cell h7w14 2
      have c3 := blk_cell h7w14 3
      simp only [List.getElem?_toArray, List.getElem?_cons_zero, List.getElem?_cons_succ] at c0 c1 c2 c3
      have d0 := blk_fz h7w14 0
      have d1 := blk_fz h7w14 1
      have d2 := blk_fz h7w14 2
      have d3 := blk_fz h7w14 3
      have e0 := blk_cell h8w14 0
      have e1 := blk_cell h8w14 1
      have e2 := blk_cell h8w14 2
      have e3 := blk_cell h8w14 3
      simp only [List.getElem?_toArray, List.getElem?_cons_zero, List.getElem?_cons_succ] at e0 e1 e2 e3
      have g0 := blk_fz h8w14 0
      have g1 := blk_fz h8w14 1
      have g2 := blk_fz h8w14 2
      have g3 := blk_fz h8w14 3
      have h87 := Ne.symm h78
      refine r1 (i := 10) rfl (fun K hK => ?_)
      go_simp
      refine hK.out _ _ trivial (fun hH => ?_)
      clear hK K
      refine r1 (i := 11) rfl (fun K hK => ?_)
      go_simp
      refine hK.out _ _ trivial (fun hH => ?_)
      clear hK K
      refine wpAnyH_done (by kernel_rfl) ?_ _
      exact ⟨rfl, b7, b8, rfl, took_end hn7 hn8 hg7 hg8 h78 hs hfw14 hsw14 hpw14 h7w14 h8w14⟩
    ·skip
     go_simp
     obtain ⟨b7, hb7⟩ : ∃ b7, w12.heap.size = b7 := ⟨_, rfl⟩
     have h7w15 := blk_new w12 (.cells #[.int .u64 0, .int .u64 0, .int .u64 0, .int .u64 0] 41)
     have hbw : Below w12.heap.size w12 (w12.alloc (.cells #[.int .u64 0, .int .u64 0, .int .u64 0, .int .u64 0] 41)) := ba
     rw [hb7] at h7w15 ⊢
     have hfw15 := blk_alloc (p := .cells #[.int .u64 0, .int .u64 0, .int .u64 0, .int .u64 0] 41) hfw12
     have hsw15 := hsw12.below hbw
     have hpw15 := hpw12.trans (.of_below hbw _ _)
     have hn7 : b7 ≠ f := by have := blk_lt hfw12; omega
     have hg7 : W.heap.size <= b7 := by have := hpw12.size; omega
     have h8w15 := blk_alloc (p := .cells #[.int .u64 0, .int .u64 0, .int .u64 0, .int .u64 0] 41) h8w12
     have h78 : b7 ≠ b8 := by have := blk_lt h8w12; omega
     refine hK.out _ _ trivial (fun hH => ?_)
     clear hK K hbw
     generalize w12.alloc (.cells #[.int .u64 0, .int .u64 0, .int .u64 0, .int .u64 0] 41) = w15 at hfw15 hsw15 hpw15 h7w15 h8w15 ⊢
     refine r1 (i := 7) rfl (fun K hK => ?_)
     ·skip
      go_simp
      refine (take296 (o := 14) hsw15 hfw15 (frC_at14 F _) (by decide)).mono ?_
      rintro e w16 ⟨rfl, hq, hsw16, hp⟩
      go_wp2_with fail
      refine hK.out _ _ trivial (fun hH => ?_)
      clear hK K
      have hfw16 : w16.heap[f]? = some (.cells (frC F ⟨sv.a, T.length, sv.c⟩) 225 (0, 0)) := hq
      have hpw16 := hpw15.thenx hp (by simp)
      have h7w16 := hp.obj h7w15 (by show (41 : Nat) ∉ []; simp) (by simpa using hn7)
      have h8w16 := hp.obj h8w15 (by show (41 : Nat) ∉ []; simp) (by simpa using hn8)
      clear hp hq
      have c0 := blk_cell h7w16 0
      have c1 := blk_cell h7w16 1
      have c2 := blk_cell h7w16 2
      have c3 := blk_cell h7w16 3
      simp only [List.getElem?_toArray, List.getElem?_cons_zero, List.getElem?_cons_succ] at c0 c1 c2 c3
      have d0 := blk_fz h7w16 0
      have d1 := blk_fz h7w16 1
      have d2 := blk_fz h7w16 2
      have d3 := blk_fz h7w16 3
      have e0 := blk_cell h8w16 0
      have e1 := blk_cell h8w16 1
      have e2 := blk_cell h8w16 2
      have e3 := blk_cell h8w16 3
      simp only [List.getElem?_toArray, List.getElem?_cons_zero, List.getElem?_cons_succ] at e0 e1 e2 e3
      have g0 := blk_fz h8w16 0
      have g1 := blk_fz h8w16 1
      have g2 := blk_fz h8w16 2
      have g3 := blk_fz h8w16 3
      have h87 := Ne.symm h78
      refine r1 (i := 10) rfl (fun K hK => ?_)
      go_simp
      refine hK.out _ _ trivial (fun hH => ?_)
      clear hK K
      refine r1 (i := 11) rfl (fun K hK => ?_)
      go_simp
      refine hK.out _ _ trivial (fun hH => ?_)
      clear hK K
      refine wpAnyH_done (by kernel_rfl) ?_ _
      exact ⟨rfl, b7, b8, rfl, took_end hn7 hn8 hg7 hg8 h78 hs hfw16 hsw16 hpw16 h7w16 h8w16⟩
  ·skip
   go_simp
   obtain ⟨b7, hb7⟩ : ∃ b7, w0.heap.size = b7 := ⟨_, rfl⟩
   have h7w17 := blk_new w0 (.cells #[.int .u64 0, .int .u64 0, .int .u64 0, .int .u64 0] 41)
   have hbw : Below w0.heap.size w0 (w0.alloc (.cells #[.int .u64 0, .int .u64 0, .int .u64 0, .int .u64 0] 41)) := ba
   rw [hb7] at h7w17 ⊢
   have hfw17 := blk_alloc (p := .cells #[.int .u64 0, .int .u64 0, .int .u64 0, .int .u64 0] 41) hfw0
   have hsw17 := hsw0.below hbw
   have hpw17 := hpw0.trans (.of_below hbw _ _)
   have hn7 : b7 ≠ f := by have := blk_lt hfw0; omega
   have hg7 : W.heap.size <= b7 := by have := hpw0.size; omega
   refine hK.out _ _ trivial (fun hH => ?_)
   clear hK K hbw
   generalize w0.alloc (.cells #[.int .u64 0, .int .u64 0, .int .u64 0, .int .u64 0] 41) = w17 at hfw17 hsw17 hpw17 h7w17 ⊢
   refine wpAnyH_ready (rs := [3, 9]) (by kernel_rfl) (by simp) ?_
   refine AllReadyH.cons rfl (fun K hK => ?_) (AllReadyH.cons rfl (fun K hK => ?_) (AllReadyH.nil))
   ·skip
    go_simp
    refine (take296 (o := 14) hsw17 hfw17 (frC_at14 F _) (by decide)).mono ?_
    rintro e w18 ⟨rfl, hq, hsw18, hp⟩
    go_wp2_with fail
    refine hK.out _ _ trivial (fun hH => ?_)
    clear hK K
    have hfw18 : w18.heap[f]? = some (.cells (frC F ⟨sv.a, (T ++ [y]).length, sv.c⟩) 225 (0, 0)) := hq
    have hpw18 := hpw17.thenx hp (by simp)
    have h7w18 := hp.obj h7w17 (by show (41 : Nat) ∉ []; simp) (by simpa using hn7)
    clear hp hq
    refine wpAnyH_ready (rs := [7, 9]) (by kernel_rfl) (by simp) ?_
    refine AllReadyH.cons rfl (fun K hK => ?_) (AllReadyH.cons rfl (fun K hK => ?_) (AllReadyH.nil))
    ·skip
     go_simp
     refine (take296 (o := 14) hsw18 hfw18 (frC_at14 F _) (by decide)).mono ?_
     rintro e w19 ⟨rfl, hq, hsw19, hp⟩
     go_wp2_with fail
     refine hK.out _ _ trivial (fun hH => ?_)
     clear hK K
     have hfw19 : w19.heap[f]? = some (.cells (frC F ⟨sv.a, T.length, sv.c⟩) 225 (0, 0)) := hq
     have hpw19 := hpw18.thenx hp (by simp)
     have h7w19 := hp.obj h7w18 (by show (41 : Nat) ∉ []; simp) (by simpa using hn7)
     clear hp hq
     refine r1 (i := 9) rfl (fun K hK => ?_)
     ·skip
      go_simp
      obtain ⟨b8, hb8⟩ : ∃ b8, w19.heap.size = b8 := ⟨_, rfl⟩
      have h8w20 := blk_new w19 (.cells #[.int .u64 0, .int .u64 0, .int .u64 0, .int .u64 0] 41)
      have hbw : Below w19.heap.size w19 (w19.alloc (.cells #[.int .u64 0, .int .u64 0, .int .u64 0, .int .u64 0] 41)) := ba
      rw [hb8] at h8w20 ⊢
      have hfw20 := blk_alloc (p := .cells #[.int .u64 0, .int .u64 0, .int .u64 0, .int .u64 0] 41) hfw19
      have hsw20 := hsw19.below hbw
      have hpw20 := hpw19.trans (.of_below hbw _ _)
      have hn8 : b8 ≠ f := by have := blk_lt hfw19; omega
      have hg8 : W.heap.size <= b8 := by have := hpw19.size; omega
      have h7w20 := blk_alloc (p := .cells #[.int .u64 0, .int .u64 0, .int .u64 0, .int .u64 0] 41) h7w19
      have h78 : b7 ≠ b8 := by have := blk_lt h7w19; omega
      refine hK.out _ _ trivial (fun hH => ?_)
      clear hK K hbw
      generalize w19.alloc (.cells #[.int .u64 0, .int .u64 0, .int .u64 0, .int .u64 0] 41) = w20 at hfw20 hsw20 hpw20 h7w20 h8w20 ⊢
      have c0 := blk_cell h7w20 0
      have c1 := blk_cell h7w20 1
      have c2 := blk_cell h7w20 2
      have c3 := blk_cell h7w20 3
      simp only [List.getElem?_toArray, List.getElem?_cons_zero, List.getElem?_cons_succ] at c0 c1 c2 c3
      have d0 := blk_fz h7w20 0
      have d1 := blk_fz h7w20 1
      have d2 := blk_fz h7w20 2
      have d3 := blk_fz h7w20 3
      have e0 := blk_cell h8w20 0
      have e1 := blk_cell h8w20 1
      have e2 := blk_cell h8w20 2
      have e3 := blk_cell h8w20 3
      simp only [List.getElem?_toArray, List.getElem?_cons_zero, List.getElem?_cons_succ] at e0 e1 e2 e3
      have g0 := blk_fz h8w20 0
      have g1 := blk_fz h8w20 1
      have g2 := blk_fz h8w20 2
      have g3 := blk_fz h8w20 3
      have h87 := Ne.symm h78
      refine r1 (i := 10) rfl (fun K hK => ?_)
      go_simp
      refine hK.out _ _ trivial (fun hH => ?_)
      clear hK K
      refine r1 (i := 11) rfl (fun K hK => ?_)
      go_simp
      refine hK.out _ _ trivial (fun hH => ?_)
      clear hK K
      refine wpAnyH_done (by kernel_rfl) ?_ _
      exact ⟨rfl, b7, b8, rfl, took_end hn7 hn8 hg7 hg8 h78 hs hfw20 hsw20 hpw20 h7w20 h8w20⟩
    ·skip
     go_simp
     obtain ⟨b8, hb8⟩ : ∃ b8, w18.heap.size = b8 := ⟨_, rfl⟩
     have h8w21 := blk_new w18 (.cells #[.int .u64 0, .int .u64 0, .int .u64 0, .int .u64 0] 41)
     have hbw : Below w18.heap.size w18 (w18.alloc (.cells #[.int .u64 0, .int .u64 0, .int .u64 0, .int .u64 0] 41)) := ba
     rw [hb8] at h8w21 ⊢
     have hfw21 := blk_alloc (p := .cells #[.int .u64 0, .int .u64 0, .int .u64 0, .int .u64 0] 41) hfw18
     have hsw21 := hsw18.below hbw
     have hpw21 := hpw18.trans (.of_below hbw _ _)
     have hn8 : b8 ≠ f := by have := blk_lt hfw18; omega
     have hg8 : W.heap.size <= b8 := by have := hpw18.size; omega
     have h7w21 := blk_alloc (p := .cells #[.int .u64 0, .int .u64 0, .int .u64 0, .int .u64 0] 41) h7w18
     have h78 : b7 ≠ b8 := by have := blk_lt h7w18; omega
     refine hK.out _ _ trivial (fun hH => ?_)
     clear hK K hbw
     generalize w18.alloc (.cells #[.int .u64 0, .int .u64 0, .int .u64 0, .int .u64 0] 41) = w21 at hfw21 hsw21 hpw21 h7w21 h8w21 ⊢
     refine r1 (i := 7) rfl (fun K hK => ?_)
     ·skip
      go_simp
      refine (take296 (o := 14) hsw21 hfw21 (frC_at14 F _) (by decide)).mono ?_
      rintro e w22 ⟨rfl, hq, hsw22, hp⟩
      go_wp2_with fail
      refine hK.out _ _ trivial (fun hH => ?_)
      clear hK K
      have hfw22 : w22.heap[f]? = some (.cells (frC F ⟨sv.a, T.length, sv.c⟩) 225 (0, 0)) := hq
      have hpw22 := hpw21.thenx hp (by simp)
      have h7w22 := hp.obj h7w21 (by show (41 : Nat) ∉ []; simp) (by simpa using hn7)
      have h8w22 := hp.obj h8w21 (by show (41 : Nat) ∉ []; simp) (by simpa using hn8)
      clear hp hq
      have c0 := blk_cell h7w22 0
      have c1 := blk_cell h7w22 1
      have c2 := blk_cell h7w22 2
      have c3 := blk_cell h7w22 3
      simp only [List.getElem?_toArray, List.getElem?_cons_zero, List.getElem?_cons_succ] at c0 c1 c2 c3
      have d0 := blk_fz h7w22 0
      have d1 := blk_fz h7w22 1
      have d2 := blk_fz h7w22 2
      have d3 := blk_fz h7w22 3
      have e0 := blk_cell h8w22 0
      have e1 := blk_cell h8w22 1
      have e2 := blk_cell h8w22 2
      have e3 := blk_cell h8w22 3
      simp only [List.getElem?_toArray, List.getElem?_cons_zero, List.getElem?_cons_succ] at e0 e1 e2 e3
      have g0 := blk_fz h8w22 0
      have g1 := blk_fz h8w22 1
      have g2 := blk_fz h8w22 2
      have g3 := blk_fz h8w22 3
      have h87 := Ne.symm h78
      refine r1 (i := 10) rfl (fun K hK => ?_)
      go_simp
      refine hK.out _ _ trivial (fun hH => ?_)
      clear hK K
      refine r1 (i := 11) rfl (fun K hK => ?_)
      go_simp
      refine hK.out _ _ trivial (fun hH => ?_)
      clear hK K
      refine wpAnyH_done (by kernel_rfl) ?_ _
      exact ⟨rfl, b7, b8, rfl, took_end hn7 hn8 hg7 hg8 h78 hs hfw22 hsw22 hpw22 h7w22 h8w22⟩
   ·skip
    go_simp
    obtain ⟨b8, hb8⟩ : ∃ b8, w17.heap.size = b8 := ⟨_, rfl⟩
    have h8w23 := blk_new w17 (.cells #[.int .u64 0, .int .u64 0, .int .u64 0, .int .u64 0] 41)
    have hbw : Below w17.heap.size w17 (w17.alloc (.cells #[.int .u64 0, .int .u64 0, .int .u64 0, .int .u64 0] 41)) := ba
    rw [hb8] at h8w23 ⊢
    have hfw23 := blk_alloc (p := .cells #[.int .u64 0, .int .u64 0, .int .u64 0, .int .u64 0] 41) hfw17
    have hsw23 := hsw17.below hbw
    have hpw23 := hpw17.trans (.of_below hbw _ _)
    have hn8 : b8 ≠ f := by have := blk_lt hfw17; omega
    have hg8 : W.heap.size <= b8 := by have := hpw17.size; omega
    have h7w23 := blk_alloc (p := .cells #[.int .u64 0, .int .u64 0, .int .u64 0, .int .u64 0] 41) h7w17
    have h78 : b7 ≠ b8 := by have := blk_lt h7w17; omega
    refine hK.out _ _ trivial (fun hH => ?_)
    clear hK K hbw
    generalize w17.alloc (.cells #[.int .u64 0, .int .u64 0, .int .u64 0, .int .u64 0] 41) = w23 at hfw23 hsw23 hpw23 h7w23 h8w23 ⊢
    refine r1 (i := 3) rfl (fun K hK => ?_)
    ·skip
     go_simp
     refine (take296 (o := 14) hsw23 hfw23 (frC_at14 F _) (by decide)).mono ?_
     rintro e w24 ⟨rfl, hq, hsw24, hp⟩
     go_wp2_with fail
     refine hK.out _ _ trivial (fun hH => ?_)
     clear hK K
     have hfw24 : w24.heap[f]? = some (.cells (frC F ⟨sv.a, (T ++ [y]).length, sv.c⟩) 225 (0, 0)) := hq
     have hpw24 := hpw23.thenx hp (by simp)
     have h7w24 := hp.obj h7w23 (by show (41 : Nat) ∉ []; simp) (by simpa using hn7)
     have h8w24 := hp.obj h8w23 (by show (41 : Nat) ∉ []; simp) (by simpa using hn8)
     clear hp hq
     refine r1 (i := 7) rfl (fun K hK => ?_)
     ·skip
      go_simp
      refine (take296 (o := 14) hsw24 hfw24 (frC_at14 F _) (by decide)).mono ?_
      rintro e w25 ⟨rfl, hq, hsw25, hp⟩
      go_wp2_with fail
      refine hK.out _ _ trivial (fun hH => ?_)
      clear hK K
      have hfw25 : w25.heap[f]? = some (.cells (frC F ⟨sv.a, T.length, sv.c⟩) 225 (0, 0)) := hq
      have hpw25 := hpw24.thenx hp (by simp)
      have h7w25 := hp.obj h7w24 (by show (41 : Nat) ∉ []; simp) (by simpa using hn7)
      have h8w25 := hp.obj h8w24 (by show (41 : Nat) ∉ []; simp) (by simpa using hn8)
      clear hp hq
      have c0 := blk_cell h7w25 0
      have c1 := blk_cell h7w25 1
      have c2 := blk_cell h7w25 2
      have c3 := blk_cell h7w25 3
      simp only [List.getElem?_toArray, List.getElem?_cons_zero, List.getElem?_cons_succ] at c0 c1 c2 c3
      have d0 := blk_fz h7w25 0
      have d1 := blk_fz h7w25 1
      have d2 := blk_fz h7w25 2
      have d3 := blk_fz h7w25 3
      have e0 := blk_cell h8w25 0
      have e1 := blk_cell h8w25 1
      have e2 := blk_cell h8w25 2
      have e3 := blk_cell h8w25 3
      simp only [List.getElem?_toArray, List.getElem?_cons_zero, List.getElem?_cons_succ] at e0 e1 e2 e3
      have g0 := blk_fz h8w25 0
      have g1 := blk_fz h8w25 1
      have g2 := blk_fz h8w25 2
      have g3 := blk_fz h8w25 3
      have h87 := Ne.symm h78
      refine r1 (i := 10) rfl (fun K hK => ?_)
      go_simp
      refine hK.out _ _ trivial (fun hH => ?_)
      clear hK K
      refine r1 (i := 11) rfl (fun K hK => ?_)
      go_simp
      refine hK.out _ _ trivial (fun hH => ?_)
      clear hK K
      refine wpAnyH_done (by kernel_rfl) ?_ _
      exact ⟨rfl, b7, b8, rfl, took_end hn7 hn8 hg7 hg8 h78 hs hfw25 hsw25 hpw25 h7w25 h8w25⟩
  ·skip
   go_simp
   obtain ⟨b8, hb8⟩ : ∃ b8, w0.heap.size = b8 := ⟨_, rfl⟩
   have h8w26 := blk_new w0 (.cells #[.int .u64 0, .int .u64 0, .int .u64 0, .int .u64 0] 41)
   have hbw : Below w0.heap.size w0 (w0.alloc (.cells #[.int .u64 0, .int .u64 0, .int .u64 0, .int .u64 0] 41)) := ba
   rw [hb8] at h8w26 ⊢
   have hfw26 := blk_alloc (p := .cells #[.int .u64 0, .int .u64 0, .int .u64 0, .int .u64 0] 41) hfw0
   have hsw26 := hsw0.below hbw
   have hpw26 := hpw0.trans (.of_below hbw _ _)
   have hn8 : b8 ≠ f := by have := blk_lt hfw0; omega
   have hg8 : W.heap.size <= b8 := by have := hpw0.size; omega
   refine hK.out _ _ trivial (fun hH => ?_)
   clear hK K hbw
   generalize w0.alloc (.cells #[.int .u64 0, .int .u64 0, .int .u64 0, .int .u64 0] 41) = w26 at hfw26 hsw26 hpw26 h8w26 ⊢
   refine wpAnyH_ready (rs := [3, 8]) (by kernel_rfl) (by simp) ?_
   refine AllReadyH.cons rfl (fun K hK => ?_) (AllReadyH.cons rfl (fun K hK => ?_) (AllReadyH.nil))
   ·skip
    go_simp
    refine (take296 (o := 14) hsw26 hfw26 (frC_at14 F _) (by decide)).mono ?_
    rintro e w27 ⟨rfl, hq, hsw27, hp⟩
    go_wp2_with fail
    refine hK.out _ _ trivial (fun hH => ?_)
    clear hK K
    have hfw27 : w27.heap[f]? = some (.cells (frC F ⟨sv.a, (T ++ [y]).length, sv.c⟩) 225 (0, 0)) := hq
    have hpw27 := hpw26.thenx hp (by simp)
    have h8w27 := hp.obj h8w26 (by show (41 : Nat) ∉ []; simp) (by simpa using hn8)
    clear hp hq
    refine wpAnyH_ready (rs := [7, 8]) (by kernel_rfl) (by simp) ?_
    refine AllReadyH.cons rfl (fun K hK => ?_) (AllReadyH.cons rfl (fun K hK => ?_) (AllReadyH.nil))
    ·skip
     go_simp
     refine (take296 (o := 14) hsw27 hfw27 (frC_at14 F _) (by decide)).mono ?_
     rintro e w28 ⟨rfl, hq, hsw28, hp⟩
     go_wp2_with fail
     refine hK.out _ _ trivial (fun hH => ?_)
     clear hK K
     have hfw28 : w28.heap[f]? = some (.cells (frC F ⟨sv.a, T.length, sv.c⟩) 225 (0, 0)) := hq
     have hpw28 := hpw27.thenx hp (by simp)
     have h8w28 := hp.obj h8w27 (by show (41 : Nat) ∉ []; simp) (by simpa using hn8)
     clear hp hq
     refine r1 (i := 8) rfl (fun K hK => ?_)
     ·skip
      go_simp
      obtain ⟨b7, hb7⟩ : ∃ b7, w28.heap.size = b7 := ⟨_, rfl⟩
      have h7w29 := blk_new w28 (.cells #[.int .u64 0, .int .u64 0, .int .u64 0, .int .u64 0] 41)
      have hbw : Below w28.heap.size w28 (w28.alloc (.cells #[.int .u64 0, .int .u64 0, .int .u64 0, .int .u64 0] 41)) := ba
      rw [hb7] at h7w29 ⊢
      have hfw29 := blk_alloc (p := .cells #[.int .u64 0, .int .u64 0, .int .u64 0, .int .u64 0] 41) hfw28
      have hsw29 := hsw28.below hbw
      have hpw29 := hpw28.trans (.of_below hbw _ _)
      have hn7 : b7 ≠ f := by have := blk_lt hfw28; omega
      have hg7 : W.heap.size <= b7 := by have := hpw28.size; omega
      have h8w29 := blk_alloc (p := .cells #[.int .u64 0, .int .u64 0, .int .u64 0, .int .u64 0] 41) h8w28
      have h78 : b7 ≠ b8 := by have := blk_lt h8w28; omega
      refine hK.out _ _ trivial (fun hH => ?_)
      clear hK K hbw
      generalize w28.alloc (.cells #[.int .u64 0, .int .u64 0, .int .u64 0, .int .u64 0] 41) = w29 at hfw29 hsw29 hpw29 h7w29 h8w29 ⊢
      have c0 := blk_cell h7w29 0
      have c1 := blk_cell h7w29 1
      have c2 := blk_cell h7w29 2
      have c3 := blk_cell h7w29 3
      simp only [List.getElem?_toArray, List.getElem?_cons_zero, List.getElem?_cons_succ] at c0 c1 c2 c3
      have d0 := blk_fz h7w29 0
      have d1 := blk_fz h7w29 1
      have d2 := blk_fz h7w29 2
      have d3 := blk_fz h7w29 3
      have e0 := blk_cell h8w29 0
      have e1 := blk_cell h8w29 1
      have e2 := blk_cell h8w29 2
      have e3 := blk_cell h8w29 3
      simp only [List.getElem?_toArray, List.getElem?_cons_zero, List.getElem?_cons_succ] at e0 e1 e2 e3
      have g0 := blk_fz h8w29 0
      have g1 := blk_fz h8w29 1
      have g2 := blk_fz h8w29 2
      have g3 := blk_fz h8w29 3
      have h87 := Ne.symm h78
      refine r1 (i := 10) rfl (fun K hK => ?_)
      go_simp
      refine hK.out _ _ trivial (fun hH => ?_)
      clear hK K
      refine r1 (i := 11) rfl (fun K hK => ?_)
      go_simp
      refine hK.out _ _ trivial (fun hH => ?_)
      clear hK K
      refine wpAnyH_done (by kernel_rfl) ?_ _
      exact ⟨rfl, b7, b8, rfl, took_end hn7 hn8 hg7 hg8 h78 hs hfw29 hsw29 hpw29 h7w29 h8w29⟩
    ·skip
     go_simp
     obtain ⟨b7, hb7⟩ : ∃ b7, w27.heap.size = b7 := ⟨_, rfl⟩
     have h7w30 := blk_new w27 (.cells #[.int .u64 0, .int .u64 0, .int .u64 0, .int .u64 0] 41)
     have hbw : Below w27.heap.size w27 (w27.alloc (.cells #[.int .u64 0, .int .u64 0, .int .u64 0, .int .u64 0] 41)) := ba
     rw [hb7] at h7w30 ⊢
     have hfw30 := blk_alloc (p := .cells #[.int .u64 0, .int .u64 0, .int .u64 0, .int .u64 0] 41) hfw27
     have hsw30 := hsw27.below hbw
     have hpw30 := hpw27.trans (.of_below hbw _ _)
     have hn7 : b7 ≠ f := by have := blk_lt hfw27; omega
     have hg7 : W.heap.size <= b7 := by have := hpw27.size; omega
     have h8w30 := blk_alloc (p := .cells #[.int .u64 0, .int .u64 0, .int .u64 0, .int .u64 0] 41) h8w27
     have h78 : b7 ≠ b8 := by have := blk_lt h8w27; omega
     refine hK.out _ _ trivial (fun hH => ?_)
     clear hK K hbw
     generalize w27.alloc (.cells #[.int .u64 0, .int .u64 0, .int .u64 0, .int .u64 0] 41) = w30 at hfw30 hsw30 hpw30 h7w30 h8w30 ⊢
     refine r1 (i := 7) rfl (fun K hK => ?_)
     ·skip
      go_simp
      refine (take296 (o := 14) hsw30 hfw30 (frC_at14 F _) (by decide)).mono ?_
      rintro e w31 ⟨rfl, hq, hsw31, hp⟩
      go_wp2_with fail
      refine hK.out _ _ trivial (fun hH => ?_)
      clear hK K
      have hfw31 : w31.heap[f]? = some (.cells (frC F ⟨sv.a, T.length, sv.c⟩) 225 (0, 0)) := hq
      have hpw31 := hpw30.thenx hp (by simp)
      have h7w31 := hp.obj h7w30 (by show (41 : Nat) ∉ []; simp) (by simpa using hn7)
      have h8w31 := hp.obj h8w30 (by show (41 : Nat) ∉ []; simp) (by simpa using hn8)
      clear hp hq
      have c0 := blk_cell h7w31 0
      have c1 := blk_cell h7w31 1
      have c2 := blk_cell h7w31 2
      have c3 := blk_cell h7w31 3
      simp only [List.getElem?_toArray, List.getElem?_cons_zero, List.getElem?_cons_succ] at c0 c1 c2 c3
      have d0 := blk_fz h7w31 0
      have d1 := blk_fz h7w31 1
      have d2 := blk_fz h7w31 2
      have d3 := blk_fz h7w31 3
      have e0 := blk_cell h8w31 0
      have e1 := blk_cell h8w31 1
      have e2 := blk_cell h8w31 2
      have e3 := blk_cell h8w31 3
      simp only [List.getElem?_toArray, List.getElem?_cons_zero, List.getElem?_cons_succ] at e0 e1 e2 e3
      have g0 := blk_fz h8w31 0
      have g1 := blk_fz h8w31 1
      have g2 := blk_fz h8w31 2
      have g3 := blk_fz h8w31 3
      have h87 := Ne.symm h78
      refine r1 (i := 10) rfl (fun K hK => ?_)
      go_simp
      refine hK.out _ _ trivial (fun hH => ?_)
      clear hK K
      refine r1 (i := 11) rfl (fun K hK => ?_)
      go_simp
      refine hK.out _ _ trivial (fun hH => ?_)
      clear hK K
      refine wpAnyH_done (by kernel_rfl) ?_ _
      exact ⟨rfl, b7, b8, rfl, took_end hn7 hn8 hg7 hg8 h78 hs hfw31 hsw31 hpw31 h7w31 h8w31⟩
   ·skip
    go_simp
    obtain ⟨b7, hb7⟩ : ∃ b7, w26.heap.size = b7 := ⟨_, rfl⟩
    have h7w32 := blk_new w26 (.cells #[.int .u64 0, .int .u64 0, .int .u64 0, .int .u64 0] 41)
    have hbw : Below w26.heap.size w26 (w26.alloc (.cells #[.int .u64 0, .int .u64 0, .int .u64 0, .int .u64 0] 41)) := ba
    rw [hb7] at h7w32 ⊢
    have hfw32 := blk_alloc (p := .cells #[.int .u64 0, .int .u64 0, .int .u64 0, .int .u64 0] 41) hfw26
    have hsw32 := hsw26.below hbw
    have hpw32 := hpw26.trans (.of_below hbw _ _)
    have hn7 : b7 ≠ f := by have := blk_lt hfw26; omega
    have hg7 : W.heap.size <= b7 := by have := hpw26.size; omega
    have h8w32 := blk_alloc (p := .cells #[.int .u64 0, .int .u64 0, .int .u64 0, .int .u64 0] 41) h8w26
    have h78 : b7 ≠ b8 := by have := blk_lt h8w26; omega
    refine hK.out _ _ trivial (fun hH => ?_)
    clear hK K hbw
    generalize w26.alloc (.cells #[.int .u64 0, .int .u64 0, .int .u64 0, .int .u64 0] 41) = w32 at hfw32 hsw32 hpw32 h7w32 h8w32 ⊢
    refine r1 (i := 3) rfl (fun K hK => ?_)
    ·skip
     go_simp
     refine (take296 (o := 14) hsw32 hfw32 (frC_at14 F _) (by decide)).mono ?_
     rintro e w33 ⟨rfl, hq, hsw33, hp⟩
     go_wp2_with fail
     refine hK.out _ _ trivial (fun hH => ?_)
     clear hK K
     have hfw33 : w33.heap[f]? = some (.cells (frC F ⟨sv.a, (T ++ [y]).length, sv.c⟩) 225 (0, 0)) := hq
     have hpw33 := hpw32.thenx hp (by simp)
     have h7w33 := hp.obj h7w32 (by show (41 : Nat) ∉ []; simp) (by simpa using hn7)
     have h8w33 := hp.obj h8w32 (by show (41 : Nat) ∉ []; simp) (by simpa using hn8)
     clear hp hq
     refine r1 (i := 7) rfl (fun K hK => ?_)
     ·skip
      go_simp
      refine (take296 (o := 14) hsw33 hfw33 (frC_at14 F _) (by decide)).mono ?_
      rintro e w34 ⟨rfl, hq, hsw34, hp⟩
      go_wp2_with fail
      refine hK.out _ _ trivial (fun hH => ?_)
      clear hK K
      have hfw34 : w34.heap[f]? = some (.cells (frC F ⟨sv.a, T.length, sv.c⟩) 225 (0, 0)) := hq
      have hpw34 := hpw33.thenx hp (by simp)
      have h7w34 := hp.obj h7w33 (by show (41 : Nat) ∉ []; simp) (by simpa using hn7)
      have h8w34 := hp.obj h8w33 (by show (41 : Nat) ∉ []; simp) (by simpa using hn8)
      clear hp hq
      have c0 := blk_cell h7w34 0
      have c1 := blk_cell h7w34 1
      have c2 := blk_cell h7w34 2
      have c3 := blk_cell h7w34 3
      simp only [List.getElem?_toArray, List.getElem?_cons_zero, List.getElem?_cons_succ] at c0 c1 c2 c3
      have d0 := blk_fz h7w34 0
      have d1 := blk_fz h7w34 1
      have d2 := blk_fz h7w34 2
      have d3 := blk_fz h7w34 3
      have e0 := blk_cell h8w34 0
      have e1 := blk_cell h8w34 1
      have e2 := blk_cell h8w34 2
      have e3 := blk_cell h8w34 3
      simp only [List.getElem?_toArray, List.getElem?_cons_zero, List.getElem?_cons_succ] at e0 e1 e2 e3
      have g0 := blk_fz h8w34 0
      have g1 := blk_fz h8w34 1
      have g2 := blk_fz h8w34 2
      have g3 := blk_fz h8w34 3
      have h87 := Ne.symm h78
      refine r1 (i := 10) rfl (fun K hK => ?_)
      go_simp
      refine hK.out _ _ trivial (fun hH => ?_)
      clear hK K
      refine r1 (i := 11) rfl (fun K hK => ?_)
      go_simp
      refine hK.out _ _ trivial (fun hH => ?_)
      clear hK K
      refine wpAnyH_done (by kernel_rfl) ?_ _
      exact ⟨rfl, b7, b8, rfl, took_end hn7 hn8 hg7 hg8 h78 hs hfw34 hsw34 hpw34 h7w34 h8w34⟩
 ·rintro b7 b8 V ⟨⟨sv', hfV, hsV⟩, h7, h8, hpV⟩
  have c0 := blk_cell h7 0
  have c1 := blk_cell h7 1
  have c2 := blk_cell h7 2
  have c3 := blk_cell h7 3
  simp only [List.getElem?_toArray, List.getElem?_cons_zero, List.getElem?_cons_succ] at c0 c1 c2 c3
  have d0 := blk_fz h7 0
  have d1 := blk_fz h7 1
  have d2 := blk_fz h7 2
  have d3 := blk_fz h7 3
  have e0 := blk_cell h8 0
  have e1 := blk_cell h8 1
  have e2 := blk_cell h8 2
  have e3 := blk_cell h8 3
  simp only [List.getElem?_toArray, List.getElem?_cons_zero, List.getElem?_cons_succ] at e0 e1 e2 e3
  have g0 := blk_fz h8 0
  have g1 := blk_fz h8 1
  have g2 := blk_fz h8 2
  have g3 := blk_fz h8 3
  clear d0 d1 d2 d3 g0 g1 g2 g3
  have hq := eqz y hy
  have hw4 : Value.agg #[.int .u64 (lim y 0), .int .u64 (lim y 1), .int .u64 (lim y 2), .int .u64 (lim y 3)] = wd y := rfl
  by_cases hy0 : y = 0
  ·rw [if_pos hy0] at hnx
   have hd : decide (y = 0) = true := by simp [hy0]
   rw [hd] at hq
   clear hy0 hd
   go_wp2
   go_ret
   refine ⟨sv', rfl, ?_, hsV, hpV.mono (fun _ _ h => h) (fun t h => by cases h)⟩
   rw [<- hnx]
   exact hfV
  ·rw [if_neg hy0] at hnx
   have hd : decide (y = 0) = false := by simp [hy0]
   rw [hd] at hq
   clear hy0 hd
   have hmV : V.cell? ⟨mb, x, none⟩ = some (.bool true) := by
    obtain ⟨o, ho⟩ : ∃ o, W.heap[mb]? = some o := ⟨_, Array.getElem?_eq_getElem hmb⟩
    have hV := hpV.obj ho (by cases o <;> first | trivial | (show _ ∉ []; simp)) (by simpa using hmf)
    simp only [World.cell?, hV]
    simp only [World.cell?, ho] at hm
    exact hm
   go_wp2_with fail
   refine (jump298 hfV x mb mn mcap hmk hmn hx (Nat.lt_of_lt_of_le hmb hpV.size) hmV).mono ?_
   rintro e V2 ⟨rfl, hf2, hp2⟩
   go_wp2
   go_ret
   refine ⟨sv', rfl, by rw [<- hnx]; exact hf2, ?_, (hpV.trans hp2).mono (fun _ _ h => h) (fun t h => by cases h)⟩
   exact hsV.pres hp2 (by simp) (fun k hk o ho => by
    obtain rfl : k = f := by simpa using hk
    rw [hfV] at ho
    cases ho
    exact ⟨_, _, _, rfl, by decide⟩)
end Go.Mark
