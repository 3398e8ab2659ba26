/-
  purserref.divide: what it returns.
-/
import Derived.Test.YtbephahokhnccaaL4
import Derived.Test.YtbephahokhnccaaEq
namespace Go.Proofs.Ytbephahokhnccaa
open Go.RowKit Go.Shelf
attribute [local go_sem] wd run_eq4

theorem wordL (n : Nat) (w : World) : Calls Try.prog 16 #[.agg (dl n).toArray] w fun e w' => e = .returned (wd (n % M)) ∧ Below w.heap.size w w' := word n w
theorem lbitL (n i : Nat) (h : i < 512) (w : World) : Calls Try.prog 51 #[.agg (dl n).toArray, .int .i64 i] w fun e w' => e = .returned (.int .u64 ((n / 2 ^ i % 2 : Nat) : Int)) ∧ Below w.heap.size w w' := lbit n i h w
theorem twice0 (n : Nat) (w : World) : Calls Try.prog 50 #[.agg (dl n).toArray, .int .u64 0] w fun e w' => e = .returned (.agg (dl ((n + n) % MM)).toArray) ∧ Below w.heap.size w w' := twice n 0 (by decide) w
theorem LH.set4 {W : World} {b c : Nat} {l : List Value} (h : LH W b l) (hne : b ≠ c) (n : Nat) : LH (set4 W c n) b l :=
  (((h.otherAt hne _).otherAt hne _).otherAt hne _).otherAt hne _
/-- A number taken out of its block, in a region that draws. -/
theorem tk34 {ops : Array Oper} {Q : Exit → Act → World → Prop} {md : Region.Mode} {S : World → Prop} {i : Nat} {oi : Oper} {d : Option Tmp} {fuel : Nat} {listed : Array Bool} {a : Act} {w : World} {x : Operand} {b : Nat} {l : List Value} (hL : LL l) (hi : ops[i]? = some oi) (hd : oi.dst = d)
    (hs : Region.noSelect ops = true) (hf : Region.free md ops listed i = true) (hr : (Region.ready md ops listed).contains i = true)
    (hQ : ∀ c a w, Q (.panic c) (a.put oi.dst (.agg l.toArray)) w → Q (.panic c) a w) (hw : Region.wanted oi (yielded ops a.tmps) = true) (ho : oi.op = .load 34 x) (hx : a.eval x = .pointer (some ⟨b, 0, none⟩)) (hl : ∀ w, S w → LH w b l) (hS : S w)
    (h : wpAnyH Try.prog md ops Q S fuel (listed.setIfInBounds i true) (a.put d (.agg l.toArray)) w) : wpAnyH Try.prog md ops Q S (fuel + 1) listed a w :=
  take_d hi hd hs hf hr hQ (yieldsIf_load_mid hw 34 x ho b 0 hx l _ (fun w hw => (hl w hw).r) Try.underlying34 rfl (by rw [hL.len]; exact i34)) hS h

/-- The end of divide: two numbers made words and handed back. -/
abbrev Fin (w W : World) (b4 b5 b6 b7 : Nat) (lq lr : List Value) : Prop := Below w.heap.size w W ∧ LH W b6 lq ∧ LH W b7 lr ∧ b4 < W.heap.size ∧ b5 < W.heap.size ∧ (∃ m, Cells4 W b4 m) ∧ (∃ m, Cells4 W b5 m)
theorem Fin.keep {w W W' : World} {b4 b5 b6 b7 : Nat} {lq lr : List Value} (h : Fin w W b4 b5 b6 b7 lq lr) (hb : Below W.heap.size W W') : Fin w W' b4 b5 b6 b7 lq lr := by
  obtain ⟨hB, Lq, Lr, h4, h5, ⟨m4, C4⟩, ⟨m5, C5⟩⟩ := h
  exact ⟨hB.trans (hb.mono hB.size), Lq.below hb, Lr.below hb, Nat.lt_of_lt_of_le h4 hb.size, Nat.lt_of_lt_of_le h5 hb.size, ⟨m4, C4.below hb h4⟩, ⟨m5, C5.below hb h5⟩⟩
theorem fin_start (w : World) (a b : Nat) : Fin w ((((((w.alloc (.cells (dl a).toArray 34)).alloc (.cells #[.int .u64 (lim b 0), .int .u64 (lim b 1), .int .u64 (lim b 2), .int .u64 (lim b 3)] 24)).alloc (.cells #[.int .u64 0, .int .u64 0, .int .u64 0, .int .u64 0] 24)).alloc (.cells #[.int .u64 0, .int .u64 0, .int .u64 0, .int .u64 0] 24)).alloc (.cells #[.int .u64 0, .int .u64 0, .int .u64 0, .int .u64 0, .int .u64 0, .int .u64 0, .int .u64 0, .int .u64 0, .int .u64 0, .int .u64 0, .int .u64 0, .int .u64 0, .int .u64 0, .int .u64 0, .int .u64 0, .int .u64 0] 34)).alloc (.cells #[.int .u64 0, .int .u64 0, .int .u64 0, .int .u64 0, .int .u64 0, .int .u64 0, .int .u64 0, .int .u64 0, .int .u64 0, .int .u64 0, .int .u64 0, .int .u64 0, .int .u64 0, .int .u64 0, .int .u64 0, .int .u64 0] 34)) (w.heap.size + 1 + 1) (w.heap.size + 1 + 1 + 1) (w.heap.size + 1 + 1 + 1 + 1) (w.heap.size + 1 + 1 + 1 + 1 + 1) (dl 0) (dl 0) := by
  have h4 := (lh_new0 ((((w.alloc (.cells (dl a).toArray 34)).alloc (.cells #[.int .u64 (lim b 0), .int .u64 (lim b 1), .int .u64 (lim b 2), .int .u64 (lim b 3)] 24)).alloc (.cells #[.int .u64 0, .int .u64 0, .int .u64 0, .int .u64 0] 24)).alloc (.cells #[.int .u64 0, .int .u64 0, .int .u64 0, .int .u64 0] 24))).alloc (.cells #[.int .u64 0, .int .u64 0, .int .u64 0, .int .u64 0, .int .u64 0, .int .u64 0, .int .u64 0, .int .u64 0, .int .u64 0, .int .u64 0, .int .u64 0, .int .u64 0, .int .u64 0, .int .u64 0, .int .u64 0, .int .u64 0] 34)
  have h5 := lh_new0 (((((w.alloc (.cells (dl a).toArray 34)).alloc (.cells #[.int .u64 (lim b 0), .int .u64 (lim b 1), .int .u64 (lim b 2), .int .u64 (lim b 3)] 24)).alloc (.cells #[.int .u64 0, .int .u64 0, .int .u64 0, .int .u64 0] 24)).alloc (.cells #[.int .u64 0, .int .u64 0, .int .u64 0, .int .u64 0] 24)).alloc (.cells #[.int .u64 0, .int .u64 0, .int .u64 0, .int .u64 0, .int .u64 0, .int .u64 0, .int .u64 0, .int .u64 0, .int .u64 0, .int .u64 0, .int .u64 0, .int .u64 0, .int .u64 0, .int .u64 0, .int .u64 0, .int .u64 0] 34))
  rw [show (((((w.alloc (.cells (dl a).toArray 34)).alloc (.cells #[.int .u64 (lim b 0), .int .u64 (lim b 1), .int .u64 (lim b 2), .int .u64 (lim b 3)] 24)).alloc (.cells #[.int .u64 0, .int .u64 0, .int .u64 0, .int .u64 0] 24)).alloc (.cells #[.int .u64 0, .int .u64 0, .int .u64 0, .int .u64 0] 24))).heap.size = w.heap.size + 1 + 1 + 1 + 1 by simp] at h4
  rw [show ((((((w.alloc (.cells (dl a).toArray 34)).alloc (.cells #[.int .u64 (lim b 0), .int .u64 (lim b 1), .int .u64 (lim b 2), .int .u64 (lim b 3)] 24)).alloc (.cells #[.int .u64 0, .int .u64 0, .int .u64 0, .int .u64 0] 24)).alloc (.cells #[.int .u64 0, .int .u64 0, .int .u64 0, .int .u64 0] 24)).alloc (.cells #[.int .u64 0, .int .u64 0, .int .u64 0, .int .u64 0, .int .u64 0, .int .u64 0, .int .u64 0, .int .u64 0, .int .u64 0, .int .u64 0, .int .u64 0, .int .u64 0, .int .u64 0, .int .u64 0, .int .u64 0, .int .u64 0] 34))).heap.size = w.heap.size + 1 + 1 + 1 + 1 + 1 by simp] at h5
  refine ⟨((((((Below.refl _ _).alloc (Nat.le_refl _) _).alloc (by simp) _).alloc (by simp <;> omega) _).alloc (by simp <;> omega) _).alloc (by simp <;> omega) _).alloc (by simp <;> omega) _, h4, h5, by simp <;> omega, by simp <;> omega, ⟨0, ?_⟩, ⟨0, ?_⟩⟩
  · refine ⟨?_, ?_, ?_, ?_, ?_, ?_, ?_, ?_⟩ <;> simp [go_sem, lim_z]
  · refine ⟨?_, ?_, ?_, ?_, ?_, ?_, ?_, ?_⟩ <;> simp [go_sem, lim_z]

set_option maxHeartbeats 4000000 in
theorem rdiv0 (a : Nat) (w : World) :
    Calls Try.prog 18 #[.agg (dl a).toArray, wd 0] w fun e w' => e = .returned (.tuple #[wd 0, wd 0]) ∧ Below w.heap.size w w' := by
  have hz : eq4 (lim 0 0) (lim 0 1) (lim 0 2) (lim 0 3) 0 0 0 0 = true := by simp [lim_z, eq4]
  have hq := wordL 0
  rw [Nat.zero_mod] at hq
  have F := fin_start w a 0
  have hLq := ll_dl 0
  go_enter Try.func18, Try.ntmps18
  go_upto_region 4 with fail
  generalize ((((((w.alloc (.cells (dl a).toArray 34)).alloc (.cells #[.int .u64 (lim 0 0), .int .u64 (lim 0 1), .int .u64 (lim 0 2), .int .u64 (lim 0 3)] 24)).alloc (.cells #[.int .u64 0, .int .u64 0, .int .u64 0, .int .u64 0] 24)).alloc (.cells #[.int .u64 0, .int .u64 0, .int .u64 0, .int .u64 0] 24)).alloc (.cells #[.int .u64 0, .int .u64 0, .int .u64 0, .int .u64 0, .int .u64 0, .int .u64 0, .int .u64 0, .int .u64 0, .int .u64 0, .int .u64 0, .int .u64 0, .int .u64 0, .int .u64 0, .int .u64 0, .int .u64 0, .int .u64 0] 34)).alloc (.cells #[.int .u64 0, .int .u64 0, .int .u64 0, .int .u64 0, .int .u64 0, .int .u64 0, .int .u64 0, .int .u64 0, .int .u64 0, .int .u64 0, .int .u64 0, .int .u64 0, .int .u64 0, .int .u64 0, .int .u64 0, .int .u64 0] 34)) = W0 at F ⊢
  generalize dl 0 = lq at F hLq hq
  replace F : Fin w W0 (w.heap.size + 1 + 1) (w.heap.size + 1 + 1 + 1) (w.heap.size + 1 + 1 + 1 + 1) (w.heap.size + 1 + 1 + 1 + 1 + 1) lq lq := F
  refine wp_region_held_drew (S := fun W => Fin w W (w.heap.size + 1 + 1) (w.heap.size + 1 + 1 + 1) (w.heap.size + 1 + 1 + 1 + 1) (w.heap.size + 1 + 1 + 1 + 1 + 1) lq lq) (by kernel_rfl) (F.keep (Below.refl _ _).drew) (fun hH => ?_)
  clear F
  refine tk34 (i := 0) (d := some 14) hLq rfl rfl (by kernel_rfl) (by kernel_rfl) (by kernel_rfl) (fun _ _ _ h => h) (by rfl) rfl rfl (fun W hW => hW.2.1) hH ?_
  simp only [Act.put, List.setIfInBounds_toArray, List.set_cons_zero, List.set_cons_succ]
  refine tk34 (i := 2) (d := some 16) hLq rfl rfl (by kernel_rfl) (by kernel_rfl) (by kernel_rfl) (fun _ _ _ h => h) (by rfl) rfl rfl (fun W hW => hW.2.2.1) hH ?_
  simp only [Act.put, List.setIfInBounds_toArray, List.set_cons_zero, List.set_cons_succ]
  refine wpAnyH_ready (rs := [1]) (by kernel_rfl) (by simp) ?_
  refine AllReadyH.cons rfl (fun K hK => ?_) AllReadyH.nil
  go_simp
  refine (hq _).mono ?_
  rintro e wA ⟨rfl, hbn⟩
  go_wp2_with fail
  refine hK.out _ _ (Fin.keep hH hbn) (fun hH => ?_)
  clear hbn hK K
  refine wpAnyH_ready (rs := [3]) (by kernel_rfl) (by simp) ?_
  refine AllReadyH.cons rfl (fun K hK => ?_) AllReadyH.nil
  go_simp
  refine (hq _).mono ?_
  rintro e wB ⟨rfl, hbn⟩
  go_wp2_with fail
  refine hK.out _ _ (Fin.keep hH hbn) (fun hH => ?_)
  clear hbn hK K
  refine wpAnyH_ready (rs := [4]) (by kernel_rfl) (by simp) ?_
  refine AllReadyH.cons rfl (fun K hK => ?_) AllReadyH.nil
  obtain ⟨hB, Lq, Lr, hz4, hz5, ⟨m4, C4⟩, ⟨m5, C5⟩⟩ := hH
  obtain ⟨x0, x1, x2, x3, x4, x5, x6, x7⟩ := id C4
  go_simp
  clear x0 x1 x2 x3 x4 x5 x6 x7
  have E4 : Cells4 ((((wB.setCell ⟨w.heap.size + 1 + 1, 0, none⟩ (.int .u64 (lim 0 0))).setCell ⟨w.heap.size + 1 + 1, 1, none⟩ (.int .u64 (lim 0 1))).setCell ⟨w.heap.size + 1 + 1, 2, none⟩ (.int .u64 (lim 0 2))).setCell ⟨w.heap.size + 1 + 1, 3, none⟩ (.int .u64 (lim 0 3))) (w.heap.size + 1 + 1) 0 := C4.set 0
  have G5 : Cells4 ((((wB.setCell ⟨w.heap.size + 1 + 1, 0, none⟩ (.int .u64 (lim 0 0))).setCell ⟨w.heap.size + 1 + 1, 1, none⟩ (.int .u64 (lim 0 1))).setCell ⟨w.heap.size + 1 + 1, 2, none⟩ (.int .u64 (lim 0 2))).setCell ⟨w.heap.size + 1 + 1, 3, none⟩ (.int .u64 (lim 0 3))) (w.heap.size + 1 + 1 + 1) m5 := C5.other (by omega) 0
  have GB : Below w.heap.size w ((((wB.setCell ⟨w.heap.size + 1 + 1, 0, none⟩ (.int .u64 (lim 0 0))).setCell ⟨w.heap.size + 1 + 1, 1, none⟩ (.int .u64 (lim 0 1))).setCell ⟨w.heap.size + 1 + 1, 2, none⟩ (.int .u64 (lim 0 2))).setCell ⟨w.heap.size + 1 + 1, 3, none⟩ (.int .u64 (lim 0 3))) := set4_below hB (by omega) 0
  have Gq : LH ((((wB.setCell ⟨w.heap.size + 1 + 1, 0, none⟩ (.int .u64 (lim 0 0))).setCell ⟨w.heap.size + 1 + 1, 1, none⟩ (.int .u64 (lim 0 1))).setCell ⟨w.heap.size + 1 + 1, 2, none⟩ (.int .u64 (lim 0 2))).setCell ⟨w.heap.size + 1 + 1, 3, none⟩ (.int .u64 (lim 0 3))) (w.heap.size + 1 + 1 + 1 + 1) lq := Lq.set4 (by omega) 0
  have Gr : LH ((((wB.setCell ⟨w.heap.size + 1 + 1, 0, none⟩ (.int .u64 (lim 0 0))).setCell ⟨w.heap.size + 1 + 1, 1, none⟩ (.int .u64 (lim 0 1))).setCell ⟨w.heap.size + 1 + 1, 2, none⟩ (.int .u64 (lim 0 2))).setCell ⟨w.heap.size + 1 + 1, 3, none⟩ (.int .u64 (lim 0 3))) (w.heap.size + 1 + 1 + 1 + 1 + 1) lq := Lr.set4 (by omega) 0
  have Gz : ((((wB.setCell ⟨w.heap.size + 1 + 1, 0, none⟩ (.int .u64 (lim 0 0))).setCell ⟨w.heap.size + 1 + 1, 1, none⟩ (.int .u64 (lim 0 1))).setCell ⟨w.heap.size + 1 + 1, 2, none⟩ (.int .u64 (lim 0 2))).setCell ⟨w.heap.size + 1 + 1, 3, none⟩ (.int .u64 (lim 0 3))).heap.size = wB.heap.size := by simp
  refine hK.out _ _ ⟨GB, Gq, Gr, by rw [Gz]; exact hz4, by rw [Gz]; exact hz5, ⟨_, E4⟩, ⟨_, G5⟩⟩ (fun hH => ?_)
  clear hK K GB Gq Gr C4 C5 Lq Lr hB hz4 hz5 Gz
  generalize (((wB.setCell ⟨w.heap.size + 1 + 1, 0, none⟩ (.int .u64 (lim 0 0))).setCell ⟨w.heap.size + 1 + 1, 1, none⟩ (.int .u64 (lim 0 1))).setCell ⟨w.heap.size + 1 + 1, 2, none⟩ (.int .u64 (lim 0 2))).setCell ⟨w.heap.size + 1 + 1, 3, none⟩ (.int .u64 (lim 0 3)) = wC at hH E4 G5 ⊢
  refine wpAnyH_ready (rs := [5]) (by kernel_rfl) (by simp) ?_
  refine AllReadyH.cons rfl (fun K hK => ?_) AllReadyH.nil
  obtain ⟨hB, Lq, Lr, hz4, hz5, -, -⟩ := hH
  obtain ⟨x0, x1, x2, x3, x4, x5, x6, x7⟩ := id G5
  go_simp
  clear x0 x1 x2 x3 x4 x5 x6 x7
  replace E4 : Cells4 ((((wC.setCell ⟨w.heap.size + 1 + 1 + 1, 0, none⟩ (.int .u64 (lim 0 0))).setCell ⟨w.heap.size + 1 + 1 + 1, 1, none⟩ (.int .u64 (lim 0 1))).setCell ⟨w.heap.size + 1 + 1 + 1, 2, none⟩ (.int .u64 (lim 0 2))).setCell ⟨w.heap.size + 1 + 1 + 1, 3, none⟩ (.int .u64 (lim 0 3))) (w.heap.size + 1 + 1) 0 := E4.other (by omega) 0
  have E5 : Cells4 ((((wC.setCell ⟨w.heap.size + 1 + 1 + 1, 0, none⟩ (.int .u64 (lim 0 0))).setCell ⟨w.heap.size + 1 + 1 + 1, 1, none⟩ (.int .u64 (lim 0 1))).setCell ⟨w.heap.size + 1 + 1 + 1, 2, none⟩ (.int .u64 (lim 0 2))).setCell ⟨w.heap.size + 1 + 1 + 1, 3, none⟩ (.int .u64 (lim 0 3))) (w.heap.size + 1 + 1 + 1) 0 := G5.set 0
  have GB : Below w.heap.size w ((((wC.setCell ⟨w.heap.size + 1 + 1 + 1, 0, none⟩ (.int .u64 (lim 0 0))).setCell ⟨w.heap.size + 1 + 1 + 1, 1, none⟩ (.int .u64 (lim 0 1))).setCell ⟨w.heap.size + 1 + 1 + 1, 2, none⟩ (.int .u64 (lim 0 2))).setCell ⟨w.heap.size + 1 + 1 + 1, 3, none⟩ (.int .u64 (lim 0 3))) := set4_below hB (by omega) 0
  have Gq : LH ((((wC.setCell ⟨w.heap.size + 1 + 1 + 1, 0, none⟩ (.int .u64 (lim 0 0))).setCell ⟨w.heap.size + 1 + 1 + 1, 1, none⟩ (.int .u64 (lim 0 1))).setCell ⟨w.heap.size + 1 + 1 + 1, 2, none⟩ (.int .u64 (lim 0 2))).setCell ⟨w.heap.size + 1 + 1 + 1, 3, none⟩ (.int .u64 (lim 0 3))) (w.heap.size + 1 + 1 + 1 + 1) lq := Lq.set4 (by omega) 0
  have Gr : LH ((((wC.setCell ⟨w.heap.size + 1 + 1 + 1, 0, none⟩ (.int .u64 (lim 0 0))).setCell ⟨w.heap.size + 1 + 1 + 1, 1, none⟩ (.int .u64 (lim 0 1))).setCell ⟨w.heap.size + 1 + 1 + 1, 2, none⟩ (.int .u64 (lim 0 2))).setCell ⟨w.heap.size + 1 + 1 + 1, 3, none⟩ (.int .u64 (lim 0 3))) (w.heap.size + 1 + 1 + 1 + 1 + 1) lq := Lr.set4 (by omega) 0
  have Gz : ((((wC.setCell ⟨w.heap.size + 1 + 1 + 1, 0, none⟩ (.int .u64 (lim 0 0))).setCell ⟨w.heap.size + 1 + 1 + 1, 1, none⟩ (.int .u64 (lim 0 1))).setCell ⟨w.heap.size + 1 + 1 + 1, 2, none⟩ (.int .u64 (lim 0 2))).setCell ⟨w.heap.size + 1 + 1 + 1, 3, none⟩ (.int .u64 (lim 0 3))).heap.size = wC.heap.size := by simp
  refine hK.out _ _ ⟨GB, Gq, Gr, by rw [Gz]; exact hz4, by rw [Gz]; exact hz5, ⟨_, E4⟩, ⟨_, E5⟩⟩ (fun hH => ?_)
  clear hK K Gq Gr Lq Lr hB hz4 hz5 Gz G5 hH
  generalize (((wC.setCell ⟨w.heap.size + 1 + 1 + 1, 0, none⟩ (.int .u64 (lim 0 0))).setCell ⟨w.heap.size + 1 + 1 + 1, 1, none⟩ (.int .u64 (lim 0 1))).setCell ⟨w.heap.size + 1 + 1 + 1, 2, none⟩ (.int .u64 (lim 0 2))).setCell ⟨w.heap.size + 1 + 1 + 1, 3, none⟩ (.int .u64 (lim 0 3)) = wD at GB E4 E5 ⊢
  refine wpAnyH_done (by kernel_rfl) ?_ _
  obtain ⟨x0, x1, x2, x3, -, -, -, -⟩ := E4
  obtain ⟨y0, y1, y2, y3, -, -, -, -⟩ := E5
  go_wp2
  simp [bodyPost, results, Try.results18, go_sem, x0, x1, x2, x3, y0, y1, y2, y3]
  exact GB

theorem div_step (a b j : Nat) : a / 2 ^ j = a / 2 ^ (j + 1) % b + a / 2 ^ (j + 1) % b + a / 2 ^ j % 2 + b * (a / 2 ^ (j + 1) / b + a / 2 ^ (j + 1) / b) := by
  have h1 : a / 2 ^ j / 2 = a / 2 ^ (j + 1) := by rw [Nat.div_div_eq_div_mul, Nat.pow_succ]
  have h2 := Nat.mod_add_div (a / 2 ^ (j + 1)) b
  rw [Nat.mul_add]
  omega
theorem div_low (D R Q b : Nat) (h : D = R + b * Q) (hR : R < b) : D / b = Q ∧ D % b = R := by
  subst h
  rw [Nat.add_mul_div_left _ _ (by omega), Nat.add_mul_mod_self_left, Nat.div_eq_of_lt hR, Nat.mod_eq_of_lt hR, Nat.zero_add]
  exact ⟨rfl, rfl⟩
theorem div_high (D R Q b : Nat) (h : D = R + b * Q) (hR : b ≤ R) (hR2 : R < b + b) : D / b = Q + 1 ∧ D % b = R - b := by
  refine div_low D (R - b) (Q + 1) b ?_ (by omega)
  rw [Nat.mul_add, Nat.mul_one]
  omega

theorem lt_pp (a k l : Nat) (hl : k = l + l) (h : a < 2 ^ l * 2 ^ l) : a / 2 ^ k = 0 := by
  rw [hl, Nat.pow_add]
  exact Nat.div_eq_of_lt h
theorem MM_two : MM = 2 ^ 256 * 2 ^ 256 := by decide

theorem cells_other {W : World} {b c m : Nat} (h : Cells4 W b m) (hne : b ≠ c) (l : List Value) : Cells4 (W.setCells c 0 l) b m := by
  obtain ⟨c0, c1, c2, c3, f0, f1, f2, f3⟩ := h
  have e : ∀ i, (W.setCells c 0 l).cell? ⟨b, i, none⟩ = W.cell? ⟨b, i, none⟩ := fun i => World.cell?_setCells_out c l 0 W ⟨b, i, none⟩ (fun hb _ => absurd hb hne)
  have f : ∀ i, (W.setCells c 0 l).frozen? ⟨b, i, none⟩ = W.frozen? ⟨b, i, none⟩ := fun i => by rw [World.frozen?_setCells]
  exact ⟨(e 0).trans c0, (e 1).trans c1, (e 2).trans c2, (e 3).trans c3, (f 0).trans f0, (f 1).trans f1, (f 2).trans f2, (f 3).trans f3⟩

set_option maxHeartbeats 8000000 in
theorem rdiv (a b : Nat) (ha : a < MM) (hb : b < M) (h0 : b ≠ 0) (w : World) :
    Calls Try.prog 18 #[.agg (dl a).toArray, wd b] w fun e w' => e = .returned (.tuple #[wd (a / b % M), wd (a % b % M)]) ∧ Below w.heap.size w w' := by
  have hz : eq4 (lim b 0) (lim b 1) (lim b 2) (lim b 3) 0 0 0 0 = false := by
    have k := eq4_lim b 0 hb M_pos
    simp only [lim_z] at k
    rw [k]
    exact decide_eq_false h0
  have F := fin_start w a b
  have La : LH ((((((w.alloc (.cells (dl a).toArray 34)).alloc (.cells #[.int .u64 (lim b 0), .int .u64 (lim b 1), .int .u64 (lim b 2), .int .u64 (lim b 3)] 24)).alloc (.cells #[.int .u64 0, .int .u64 0, .int .u64 0, .int .u64 0] 24)).alloc (.cells #[.int .u64 0, .int .u64 0, .int .u64 0, .int .u64 0] 24)).alloc (.cells #[.int .u64 0, .int .u64 0, .int .u64 0, .int .u64 0, .int .u64 0, .int .u64 0, .int .u64 0, .int .u64 0, .int .u64 0, .int .u64 0, .int .u64 0, .int .u64 0, .int .u64 0, .int .u64 0, .int .u64 0, .int .u64 0] 34)).alloc (.cells #[.int .u64 0, .int .u64 0, .int .u64 0, .int .u64 0, .int .u64 0, .int .u64 0, .int .u64 0, .int .u64 0, .int .u64 0, .int .u64 0, .int .u64 0, .int .u64 0, .int .u64 0, .int .u64 0, .int .u64 0, .int .u64 0] 34)) w.heap.size (dl a) := (((((lh_new w (ll_dl a)).alloc _).alloc _).alloc _).alloc _).alloc _
  have Cb : Eq4 ((((((w.alloc (.cells (dl a).toArray 34)).alloc (.cells #[.int .u64 (lim b 0), .int .u64 (lim b 1), .int .u64 (lim b 2), .int .u64 (lim b 3)] 24)).alloc (.cells #[.int .u64 0, .int .u64 0, .int .u64 0, .int .u64 0] 24)).alloc (.cells #[.int .u64 0, .int .u64 0, .int .u64 0, .int .u64 0] 24)).alloc (.cells #[.int .u64 0, .int .u64 0, .int .u64 0, .int .u64 0, .int .u64 0, .int .u64 0, .int .u64 0, .int .u64 0, .int .u64 0, .int .u64 0, .int .u64 0, .int .u64 0, .int .u64 0, .int .u64 0, .int .u64 0, .int .u64 0] 34)).alloc (.cells #[.int .u64 0, .int .u64 0, .int .u64 0, .int .u64 0, .int .u64 0, .int .u64 0, .int .u64 0, .int .u64 0, .int .u64 0, .int .u64 0, .int .u64 0, .int .u64 0, .int .u64 0, .int .u64 0, .int .u64 0, .int .u64 0] 34)) (w.heap.size + 1) b := by refine ⟨?_, ?_, ?_, ?_⟩ <;> simp [go_sem]
  go_enter Try.func18, Try.ntmps18
  go_upto_region 5 with fail
  generalize ((((((w.alloc (.cells (dl a).toArray 34)).alloc (.cells #[.int .u64 (lim b 0), .int .u64 (lim b 1), .int .u64 (lim b 2), .int .u64 (lim b 3)] 24)).alloc (.cells #[.int .u64 0, .int .u64 0, .int .u64 0, .int .u64 0] 24)).alloc (.cells #[.int .u64 0, .int .u64 0, .int .u64 0, .int .u64 0] 24)).alloc (.cells #[.int .u64 0, .int .u64 0, .int .u64 0, .int .u64 0, .int .u64 0, .int .u64 0, .int .u64 0, .int .u64 0, .int .u64 0, .int .u64 0, .int .u64 0, .int .u64 0, .int .u64 0, .int .u64 0, .int .u64 0, .int .u64 0] 34)).alloc (.cells #[.int .u64 0, .int .u64 0, .int .u64 0, .int .u64 0, .int .u64 0, .int .u64 0, .int .u64 0, .int .u64 0, .int .u64 0, .int .u64 0, .int .u64 0, .int .u64 0, .int .u64 0, .int .u64 0, .int .u64 0, .int .u64 0] 34)) = W0 at F La Cb ⊢
  clear hz
  obtain ⟨k0, k1, k2, k3⟩ := Cb
  go_wp2_with fail
  clear k0 k1 k2 k3
  refine (spreadL b hb _).mono ?_
  rintro e w1 ⟨rfl, hb1⟩
  replace F := F.keep hb1
  replace La := La.below hb1
  clear hb1
  have hLd := ll_dl b
  have hlen := hLd.len
  have hsc := sc34 w1 hLd
  go_upto_region 6 with fail
  have hzd : w.heap.size + 1 + 1 + 1 + 1 + 1 < w1.heap.size := F.2.2.1.z
  have Ld := lh_new w1 hLd
  replace F := F.keep ((Below.refl _ _).alloc (Nat.le_refl _) (.cells (dl b).toArray 34))
  replace La := La.alloc (.cells (dl b).toArray 34)
  clear hsc hlen
  generalize w1.alloc (.cells (dl b).toArray 34) = W1 at F La Ld ⊢
  go_wp2
  go_loopw [9] (fun i wr => ((∃ j : Nat, i = .int .i64 j ∧ j < 512 ∧ Fin w wr (w.heap.size + 1 + 1) (w.heap.size + 1 + 1 + 1) (w.heap.size + 1 + 1 + 1 + 1) (w.heap.size + 1 + 1 + 1 + 1 + 1) (dl (a / 2 ^ (j + 1) / b)) (dl (a / 2 ^ (j + 1) % b))) ∨ (i = .int .i64 (-1) ∧ Fin w wr (w.heap.size + 1 + 1) (w.heap.size + 1 + 1 + 1) (w.heap.size + 1 + 1 + 1 + 1) (w.heap.size + 1 + 1 + 1 + 1 + 1) (dl (a / b)) (dl (a % b)))) ∧ LH wr w.heap.size (dl a) ∧ LH wr w1.heap.size (dl b)) (fun i _ => (intOf i + 1).toNat)
  case atStart =>
    refine ⟨.inl ⟨511, rfl, by decide, ?_⟩, La, Ld⟩
    rw [lt_pp a (511 + 1) 256 rfl (MM_two ▸ ha), Nat.zero_div, Nat.zero_mod]
    exact F
  case round =>
    clear F La Ld
    obtain ⟨h, La, Ld⟩ := hrel
    rcases h with ⟨j, rfl, hj, F⟩ | ⟨rfl, F⟩
    · have hj' : (0 : Int) ≤ j := by omega
      have hstep := div_step a b j
      have hbit := lbitL a j hj
      have ht : a / 2 ^ j % 2 ≤ 1 := by omega
      have hrl : a / 2 ^ (j + 1) % b < b := Nat.mod_lt _ (by omega)
      have hql : a / 2 ^ (j + 1) / b + a / 2 ^ (j + 1) / b < MM := by
        have h1 := Nat.div_le_self (a / 2 ^ (j + 1)) b
        have h2 : a / 2 ^ j / 2 = a / 2 ^ (j + 1) := by rw [Nat.div_div_eq_div_mul, Nat.pow_succ]
        have h3 := Nat.div_le_self a (2 ^ j)
        omega
      have hMM : M + M < MM := by decide
      have e0 : a / 2 ^ 0 = a := by simp
      generalize hDD : a / 2 ^ j = D at *
      generalize a / 2 ^ (j + 1) % b = r at *
      generalize a / 2 ^ (j + 1) / b = q at *
      generalize D % 2 = t at *
      have hT := twice r t ht
      rw [Nat.mod_eq_of_lt (show r + r < MM by omega)] at hT
      have hQ2 := twice0 q
      rw [Nat.mod_eq_of_lt hql] at hQ2
      generalize hR : r + r + t = R at *
      generalize hQ : q + q = Q at *
      have hRl : R < b + b := by omega
      have hBl := below R b (by omega) (by omega)
      have hMi := minus R b (by omega)
      have hLa := ll_dl a
      have hLq := ll_dl q
      have hLr := ll_dl r
      have hLQ := ll_dl Q
      have hLR := ll_dl R
      have hbw : IntKind.u64.wrap (dig Q 0 + 1) = dig Q 0 + 1 := bump_wrap Q 1 (by decide)
      have hbs : (dl Q).set 0 (.int .u64 (dig Q 0 + 1)) = dl (Q + 1) := dl_bump Q 1 (by omega) (by decide)
      have hbg := dl_get Q 0 (by decide)
      have hLR2 := ll_dl ((R + MM - b) % MM)
      have hLQ2 := ll_dl (Q + 1)
      have hDa : j = 0 → D = a := fun h => by subst h; rw [← hDD, e0]
      by_cases hRb : R < b
      · rw [decide_eq_true hRb] at hBl
        obtain ⟨hq1, hr1⟩ := div_low D R Q b hstep hRb
        replace hq1 := congrArg dl hq1
        replace hr1 := congrArg dl hr1
        clear hMi hLR2 hLQ2 hstep hRb hRl hR hQ hql hbs hbg hbw ht hrl e0 hMM hb ha h0
        generalize dl q = lq at F hLq hQ2
        generalize dl r = lr at F hLr hT
        generalize dl R = lR at hT hBl hLR hr1
        generalize dl Q = lQ at hQ2 hLQ hq1
        go_upto_region 9 with fail
        refine wp_region_held_drew (S := fun W => Below w.heap.size w W ∧ LH W w.heap.size (dl a)) (by kernel_rfl) ⟨F.1.drew, La.drew⟩ (fun hH => ?_)
        replace F := F.keep (Below.refl _ _).drew
        replace Ld := Ld.drew
        clear La
        generalize wr.drew = wS at hH F Ld ⊢
        refine tk34 (i := 1) (d := some 25) hLa rfl rfl (by kernel_rfl) (by kernel_rfl) (by kernel_rfl) (fun _ _ _ h => h) (by rfl) rfl rfl (fun W hW => hW.2) hH ?_
        simp only [Act.put, List.setIfInBounds_toArray, List.set_cons_zero, List.set_cons_succ]
        refine take_d (i := 2) (d := some 26) (v := .int .i64 j) rfl rfl (by kernel_rfl) (by kernel_rfl) (by kernel_rfl) (fun _ _ _ h => h) (Or.inl ⟨by rfl, fun W hW => ?_⟩) hH ?_
        · clear hW hH F Ld
          go_simp
        simp only [Act.put, List.setIfInBounds_toArray, List.set_cons_zero, List.set_cons_succ]
        refine wpAnyH_ready (rs := [0, 3]) (by kernel_rfl) (by simp) ?_
        refine AllReadyH.cons rfl (fun K hK => ?_) (AllReadyH.cons rfl (fun K hK => ?_) AllReadyH.nil)
        · refine wp_load_mid 34 _ rfl (w.heap.size + 1 + 1 + 1 + 1 + 1) 0 rfl lr _ F.2.2.1.r Try.underlying34 rfl (by rw [hLr.len]; exact i34) ?_
          refine hK.out _ _ hH (fun hH => ?_)
          clear hK K
          simp only [Act.put, List.setIfInBounds_toArray]
          refine wpAnyH_ready (rs := [3]) (by kernel_rfl) (by simp) ?_
          refine AllReadyH.cons rfl (fun K hK => ?_) AllReadyH.nil
          go_simp
          refine (hbit _).mono ?_
          rintro e wA ⟨rfl, hbn⟩
          go_wp2_with fail
          refine hK.out _ _ ⟨hH.1.trans (hbn.mono hH.1.size), hH.2.below hbn⟩ (fun hH => ?_)
          replace F := F.keep hbn
          replace Ld := Ld.below hbn
          clear hbn hK K
          refine wpAnyH_ready (rs := [4]) (by kernel_rfl) (by simp) ?_
          refine AllReadyH.cons rfl (fun K hK => ?_) AllReadyH.nil
          go_simp
          refine (hT _).mono ?_
          rintro e wT ⟨rfl, hbn⟩
          go_wp2_with fail
          refine hK.out _ _ ⟨hH.1.trans (hbn.mono hH.1.size), hH.2.below hbn⟩ (fun hH => ?_)
          replace F := F.keep hbn
          replace Ld := Ld.below hbn
          clear hbn hK K
          refine wpAnyH_ready (rs := [5]) (by kernel_rfl) (by simp) ?_
          refine AllReadyH.cons rfl (fun K hK => ?_) AllReadyH.nil
          obtain ⟨hB, Lq, Lr, hz4, hz5, ⟨m4, C4⟩, ⟨m5, C5⟩⟩ := F
          refine wp_store_mid 34 _ _ rfl (w.heap.size + 1 + 1 + 1 + 1 + 1) 0 lR.toArray rfl rfl (by simpa [hLR.len] using Lr.t) (by simpa [hLR.len] using i34) hLR.one ?_
          have F : Fin w (wT.setCells (w.heap.size + 1 + 1 + 1 + 1 + 1) 0 lR) (w.heap.size + 1 + 1) (w.heap.size + 1 + 1 + 1) (w.heap.size + 1 + 1 + 1 + 1) (w.heap.size + 1 + 1 + 1 + 1 + 1) lq lR := ⟨below_setCells _ _ _ _ _ _ hB (by omega), Lq.other (by omega) _, Lr.set hLR, by rw [size_setCells]; exact hz4, by rw [size_setCells]; exact hz5, ⟨m4, cells_other C4 (by omega) _⟩, ⟨m5, cells_other C5 (by omega) _⟩⟩
          replace Ld := Ld.other (c := w.heap.size + 1 + 1 + 1 + 1 + 1) (by omega) lR
          refine hK.out _ _ ⟨F.1, hH.2.other (by omega) _⟩ (fun hH => ?_)
          clear hK K C4 C5 Lq Lr hB hz4 hz5
          refine wpAnyH_done (by kernel_rfl) ?_ _
          replace La := hH.2
          clear hH
          generalize wT.setCells (w.heap.size + 1 + 1 + 1 + 1 + 1) 0 lR = wU at F Ld La ⊢
          go_upto_region 10 with fail
          obtain ⟨hB, Lq, Lr, hz4, hz5, ⟨m4, C4⟩, ⟨m5, C5⟩⟩ := F
          refine wp_region_list ?_
          refine ld34 Lq hLq rfl rfl rfl ?_
          go_wp2_with fail
          refine (hQ2 _).mono ?_
          rintro e wV ⟨rfl, hbn⟩
          rename_i K hK
          refine hK _ _ ?_
          have F := Fin.keep (⟨hB, Lq, Lr, hz4, hz5, ⟨m4, C4⟩, ⟨m5, C5⟩⟩ : Fin w wU (w.heap.size + 1 + 1) (w.heap.size + 1 + 1 + 1) (w.heap.size + 1 + 1 + 1 + 1) (w.heap.size + 1 + 1 + 1 + 1 + 1) lq lR) hbn
          replace La := La.below hbn
          replace Ld := Ld.below hbn
          clear hbn hB Lq Lr hz4 hz5 C4 C5
          obtain ⟨hB, Lq, Lr, hz4, hz5, ⟨m4, C4⟩, ⟨m5, C5⟩⟩ := F
          refine st34 Lq hLQ rfl rfl rfl rfl ?_
          have F : Fin w (wV.setCells (w.heap.size + 1 + 1 + 1 + 1) 0 lQ) (w.heap.size + 1 + 1) (w.heap.size + 1 + 1 + 1) (w.heap.size + 1 + 1 + 1 + 1) (w.heap.size + 1 + 1 + 1 + 1 + 1) lQ lR := ⟨below_setCells _ _ _ _ _ _ hB (by omega), Lq.set hLQ, Lr.other (by omega) _, by rw [size_setCells]; exact hz4, by rw [size_setCells]; exact hz5, ⟨m4, cells_other C4 (by omega) _⟩, ⟨m5, cells_other C5 (by omega) _⟩⟩
          replace Ld := Ld.other (c := w.heap.size + 1 + 1 + 1 + 1) (by omega) lQ
          replace La := La.other (c := w.heap.size + 1 + 1 + 1 + 1) (by omega) lQ
          clear C4 C5 Lq Lr hB hz4 hz5 hK
          generalize wV.setCells (w.heap.size + 1 + 1 + 1 + 1) 0 lQ = wX at F Ld La ⊢
          go_upto_region 11 with fail
          refine wp_region_list ?_
          refine ld34 F.2.2.1 hLR rfl rfl rfl ?_
          refine ld34 Ld hLd rfl rfl rfl ?_
          go_wp2_with fail
          refine (hBl _).mono ?_
          rintro e wY ⟨rfl, hbn⟩
          replace F := F.keep hbn
          replace La := La.below hbn
          replace Ld := Ld.below hbn
          clear hbn
          go_wp2
          go_roundw
          case rel =>
            refine ⟨?_, La, Ld⟩
            rcases j with _ | j
            · right
              refine ⟨by go_num, ?_⟩
              rw [← hDa rfl, hq1, hr1]
              exact F
            · left
              refine ⟨j, by go_num, by omega, ?_⟩
              rw [hDD, hq1, hr1]
              exact F
          case measure => simp [intOf]
        · go_simp
          refine (hbit _).mono ?_
          rintro e wA ⟨rfl, hbn⟩
          go_wp2_with fail
          refine hK.out _ _ ⟨hH.1.trans (hbn.mono hH.1.size), hH.2.below hbn⟩ (fun hH => ?_)
          replace F := F.keep hbn
          replace Ld := Ld.below hbn
          clear hbn hK K
          refine wpAnyH_ready (rs := [0]) (by kernel_rfl) (by simp) ?_
          refine AllReadyH.cons rfl (fun K hK => ?_) AllReadyH.nil
          refine wp_load_mid 34 _ rfl (w.heap.size + 1 + 1 + 1 + 1 + 1) 0 rfl lr _ F.2.2.1.r Try.underlying34 rfl (by rw [hLr.len]; exact i34) ?_
          refine hK.out _ _ hH (fun hH => ?_)
          clear hK K
          simp only [Act.put, List.setIfInBounds_toArray]
          refine wpAnyH_ready (rs := [4]) (by kernel_rfl) (by simp) ?_
          refine AllReadyH.cons rfl (fun K hK => ?_) AllReadyH.nil
          go_simp
          refine (hT _).mono ?_
          rintro e wT ⟨rfl, hbn⟩
          go_wp2_with fail
          refine hK.out _ _ ⟨hH.1.trans (hbn.mono hH.1.size), hH.2.below hbn⟩ (fun hH => ?_)
          replace F := F.keep hbn
          replace Ld := Ld.below hbn
          clear hbn hK K
          refine wpAnyH_ready (rs := [5]) (by kernel_rfl) (by simp) ?_
          refine AllReadyH.cons rfl (fun K hK => ?_) AllReadyH.nil
          obtain ⟨hB, Lq, Lr, hz4, hz5, ⟨m4, C4⟩, ⟨m5, C5⟩⟩ := F
          refine wp_store_mid 34 _ _ rfl (w.heap.size + 1 + 1 + 1 + 1 + 1) 0 lR.toArray rfl rfl (by simpa [hLR.len] using Lr.t) (by simpa [hLR.len] using i34) hLR.one ?_
          have F : Fin w (wT.setCells (w.heap.size + 1 + 1 + 1 + 1 + 1) 0 lR) (w.heap.size + 1 + 1) (w.heap.size + 1 + 1 + 1) (w.heap.size + 1 + 1 + 1 + 1) (w.heap.size + 1 + 1 + 1 + 1 + 1) lq lR := ⟨below_setCells _ _ _ _ _ _ hB (by omega), Lq.other (by omega) _, Lr.set hLR, by rw [size_setCells]; exact hz4, by rw [size_setCells]; exact hz5, ⟨m4, cells_other C4 (by omega) _⟩, ⟨m5, cells_other C5 (by omega) _⟩⟩
          replace Ld := Ld.other (c := w.heap.size + 1 + 1 + 1 + 1 + 1) (by omega) lR
          refine hK.out _ _ ⟨F.1, hH.2.other (by omega) _⟩ (fun hH => ?_)
          clear hK K C4 C5 Lq Lr hB hz4 hz5
          refine wpAnyH_done (by kernel_rfl) ?_ _
          replace La := hH.2
          clear hH
          generalize wT.setCells (w.heap.size + 1 + 1 + 1 + 1 + 1) 0 lR = wU at F Ld La ⊢
          go_upto_region 10 with fail
          obtain ⟨hB, Lq, Lr, hz4, hz5, ⟨m4, C4⟩, ⟨m5, C5⟩⟩ := F
          refine wp_region_list ?_
          refine ld34 Lq hLq rfl rfl rfl ?_
          go_wp2_with fail
          refine (hQ2 _).mono ?_
          rintro e wV ⟨rfl, hbn⟩
          rename_i K hK
          refine hK _ _ ?_
          have F := Fin.keep (⟨hB, Lq, Lr, hz4, hz5, ⟨m4, C4⟩, ⟨m5, C5⟩⟩ : Fin w wU (w.heap.size + 1 + 1) (w.heap.size + 1 + 1 + 1) (w.heap.size + 1 + 1 + 1 + 1) (w.heap.size + 1 + 1 + 1 + 1 + 1) lq lR) hbn
          replace La := La.below hbn
          replace Ld := Ld.below hbn
          clear hbn hB Lq Lr hz4 hz5 C4 C5
          obtain ⟨hB, Lq, Lr, hz4, hz5, ⟨m4, C4⟩, ⟨m5, C5⟩⟩ := F
          refine st34 Lq hLQ rfl rfl rfl rfl ?_
          have F : Fin w (wV.setCells (w.heap.size + 1 + 1 + 1 + 1) 0 lQ) (w.heap.size + 1 + 1) (w.heap.size + 1 + 1 + 1) (w.heap.size + 1 + 1 + 1 + 1) (w.heap.size + 1 + 1 + 1 + 1 + 1) lQ lR := ⟨below_setCells _ _ _ _ _ _ hB (by omega), Lq.set hLQ, Lr.other (by omega) _, by rw [size_setCells]; exact hz4, by rw [size_setCells]; exact hz5, ⟨m4, cells_other C4 (by omega) _⟩, ⟨m5, cells_other C5 (by omega) _⟩⟩
          replace Ld := Ld.other (c := w.heap.size + 1 + 1 + 1 + 1) (by omega) lQ
          replace La := La.other (c := w.heap.size + 1 + 1 + 1 + 1) (by omega) lQ
          clear C4 C5 Lq Lr hB hz4 hz5 hK
          generalize wV.setCells (w.heap.size + 1 + 1 + 1 + 1) 0 lQ = wX at F Ld La ⊢
          go_upto_region 11 with fail
          refine wp_region_list ?_
          refine ld34 F.2.2.1 hLR rfl rfl rfl ?_
          refine ld34 Ld hLd rfl rfl rfl ?_
          go_wp2_with fail
          refine (hBl _).mono ?_
          rintro e wY ⟨rfl, hbn⟩
          replace F := F.keep hbn
          replace La := La.below hbn
          replace Ld := Ld.below hbn
          clear hbn
          go_wp2
          go_roundw
          case rel =>
            refine ⟨?_, La, Ld⟩
            rcases j with _ | j
            · right
              refine ⟨by go_num, ?_⟩
              rw [← hDa rfl, hq1, hr1]
              exact F
            · left
              refine ⟨j, by go_num, by omega, ?_⟩
              rw [hDD, hq1, hr1]
              exact F
          case measure => simp [intOf]
      · rw [decide_eq_false hRb] at hBl
        obtain ⟨hq1, hr1⟩ := div_high D R Q b hstep (by omega) hRl
        replace hq1 := congrArg dl hq1
        replace hr1 := congrArg dl hr1
        have e3 : (R + MM - b) % MM = R - b := by rw [show R + MM - b = R - b + MM by omega, Nat.add_mod_right]; exact Nat.mod_eq_of_lt (by omega)
        rw [e3] at hMi hLR2
        clear e3 hstep hRb hRl hR hQ hql ht hrl e0 hMM hb ha h0
        generalize dl q = lq at F hLq hQ2
        generalize dl r = lr at F hLr hT
        generalize dl R = lR at hT hBl hMi hLR
        generalize dl (Q + 1) = lQ2 at hbs hLQ2 hq1
        generalize dl Q = lQ at hQ2 hLQ hbs hbg
        generalize dl (R - b) = lR2 at hMi hLR2 hr1
        generalize dig Q 0 = y at hbs hbg hbw
        go_upto_region 9 with fail
        refine wp_region_held_drew (S := fun W => Below w.heap.size w W ∧ LH W w.heap.size (dl a)) (by kernel_rfl) ⟨F.1.drew, La.drew⟩ (fun hH => ?_)
        replace F := F.keep (Below.refl _ _).drew
        replace Ld := Ld.drew
        clear La
        generalize wr.drew = wS at hH F Ld ⊢
        refine tk34 (i := 1) (d := some 25) hLa rfl rfl (by kernel_rfl) (by kernel_rfl) (by kernel_rfl) (fun _ _ _ h => h) (by rfl) rfl rfl (fun W hW => hW.2) hH ?_
        simp only [Act.put, List.setIfInBounds_toArray, List.set_cons_zero, List.set_cons_succ]
        refine take_d (i := 2) (d := some 26) (v := .int .i64 j) rfl rfl (by kernel_rfl) (by kernel_rfl) (by kernel_rfl) (fun _ _ _ h => h) (Or.inl ⟨by rfl, fun W hW => ?_⟩) hH ?_
        · clear hW hH F Ld
          go_simp
        simp only [Act.put, List.setIfInBounds_toArray, List.set_cons_zero, List.set_cons_succ]
        refine wpAnyH_ready (rs := [0, 3]) (by kernel_rfl) (by simp) ?_
        refine AllReadyH.cons rfl (fun K hK => ?_) (AllReadyH.cons rfl (fun K hK => ?_) AllReadyH.nil)
        · refine wp_load_mid 34 _ rfl (w.heap.size + 1 + 1 + 1 + 1 + 1) 0 rfl lr _ F.2.2.1.r Try.underlying34 rfl (by rw [hLr.len]; exact i34) ?_
          refine hK.out _ _ hH (fun hH => ?_)
          clear hK K
          simp only [Act.put, List.setIfInBounds_toArray]
          refine wpAnyH_ready (rs := [3]) (by kernel_rfl) (by simp) ?_
          refine AllReadyH.cons rfl (fun K hK => ?_) AllReadyH.nil
          go_simp
          refine (hbit _).mono ?_
          rintro e wA ⟨rfl, hbn⟩
          go_wp2_with fail
          refine hK.out _ _ ⟨hH.1.trans (hbn.mono hH.1.size), hH.2.below hbn⟩ (fun hH => ?_)
          replace F := F.keep hbn
          replace Ld := Ld.below hbn
          clear hbn hK K
          refine wpAnyH_ready (rs := [4]) (by kernel_rfl) (by simp) ?_
          refine AllReadyH.cons rfl (fun K hK => ?_) AllReadyH.nil
          go_simp
          refine (hT _).mono ?_
          rintro e wT ⟨rfl, hbn⟩
          go_wp2_with fail
          refine hK.out _ _ ⟨hH.1.trans (hbn.mono hH.1.size), hH.2.below hbn⟩ (fun hH => ?_)
          replace F := F.keep hbn
          replace Ld := Ld.below hbn
          clear hbn hK K
          refine wpAnyH_ready (rs := [5]) (by kernel_rfl) (by simp) ?_
          refine AllReadyH.cons rfl (fun K hK => ?_) AllReadyH.nil
          obtain ⟨hB, Lq, Lr, hz4, hz5, ⟨m4, C4⟩, ⟨m5, C5⟩⟩ := F
          refine wp_store_mid 34 _ _ rfl (w.heap.size + 1 + 1 + 1 + 1 + 1) 0 lR.toArray rfl rfl (by simpa [hLR.len] using Lr.t) (by simpa [hLR.len] using i34) hLR.one ?_
          have F : Fin w (wT.setCells (w.heap.size + 1 + 1 + 1 + 1 + 1) 0 lR) (w.heap.size + 1 + 1) (w.heap.size + 1 + 1 + 1) (w.heap.size + 1 + 1 + 1 + 1) (w.heap.size + 1 + 1 + 1 + 1 + 1) lq lR := ⟨below_setCells _ _ _ _ _ _ hB (by omega), Lq.other (by omega) _, Lr.set hLR, by rw [size_setCells]; exact hz4, by rw [size_setCells]; exact hz5, ⟨m4, cells_other C4 (by omega) _⟩, ⟨m5, cells_other C5 (by omega) _⟩⟩
          replace Ld := Ld.other (c := w.heap.size + 1 + 1 + 1 + 1 + 1) (by omega) lR
          refine hK.out _ _ ⟨F.1, hH.2.other (by omega) _⟩ (fun hH => ?_)
          clear hK K C4 C5 Lq Lr hB hz4 hz5
          refine wpAnyH_done (by kernel_rfl) ?_ _
          replace La := hH.2
          clear hH
          generalize wT.setCells (w.heap.size + 1 + 1 + 1 + 1 + 1) 0 lR = wU at F Ld La ⊢
          go_upto_region 10 with fail
          obtain ⟨hB, Lq, Lr, hz4, hz5, ⟨m4, C4⟩, ⟨m5, C5⟩⟩ := F
          refine wp_region_list ?_
          refine ld34 Lq hLq rfl rfl rfl ?_
          go_wp2_with fail
          refine (hQ2 _).mono ?_
          rintro e wV ⟨rfl, hbn⟩
          rename_i K hK
          refine hK _ _ ?_
          have F := Fin.keep (⟨hB, Lq, Lr, hz4, hz5, ⟨m4, C4⟩, ⟨m5, C5⟩⟩ : Fin w wU (w.heap.size + 1 + 1) (w.heap.size + 1 + 1 + 1) (w.heap.size + 1 + 1 + 1 + 1) (w.heap.size + 1 + 1 + 1 + 1 + 1) lq lR) hbn
          replace La := La.below hbn
          replace Ld := Ld.below hbn
          clear hbn hB Lq Lr hz4 hz5 C4 C5
          obtain ⟨hB, Lq, Lr, hz4, hz5, ⟨m4, C4⟩, ⟨m5, C5⟩⟩ := F
          refine st34 Lq hLQ rfl rfl rfl rfl ?_
          have F : Fin w (wV.setCells (w.heap.size + 1 + 1 + 1 + 1) 0 lQ) (w.heap.size + 1 + 1) (w.heap.size + 1 + 1 + 1) (w.heap.size + 1 + 1 + 1 + 1) (w.heap.size + 1 + 1 + 1 + 1 + 1) lQ lR := ⟨below_setCells _ _ _ _ _ _ hB (by omega), Lq.set hLQ, Lr.other (by omega) _, by rw [size_setCells]; exact hz4, by rw [size_setCells]; exact hz5, ⟨m4, cells_other C4 (by omega) _⟩, ⟨m5, cells_other C5 (by omega) _⟩⟩
          replace Ld := Ld.other (c := w.heap.size + 1 + 1 + 1 + 1) (by omega) lQ
          replace La := La.other (c := w.heap.size + 1 + 1 + 1 + 1) (by omega) lQ
          clear C4 C5 Lq Lr hB hz4 hz5 hK
          generalize wV.setCells (w.heap.size + 1 + 1 + 1 + 1) 0 lQ = wX at F Ld La ⊢
          go_upto_region 11 with fail
          refine wp_region_list ?_
          refine ld34 F.2.2.1 hLR rfl rfl rfl ?_
          refine ld34 Ld hLd rfl rfl rfl ?_
          go_wp2_with fail
          refine (hBl _).mono ?_
          rintro e wY ⟨rfl, hbn⟩
          replace F := F.keep hbn
          replace La := La.below hbn
          replace Ld := Ld.below hbn
          clear hbn
          go_upto_region 13 with fail
          refine wp_region_list ?_
          refine ld34 F.2.2.1 hLR rfl rfl rfl ?_
          refine ld34 Ld hLd rfl rfl rfl ?_
          go_wp2_with fail
          refine (hMi _).mono ?_
          rintro e wZ ⟨rfl, hbn⟩
          rename_i K hK
          refine hK _ _ ?_
          replace F := F.keep hbn
          replace La := La.below hbn
          replace Ld := Ld.below hbn
          clear hbn
          obtain ⟨hB, Lq, Lr, hz4, hz5, ⟨m4, C4⟩, ⟨m5, C5⟩⟩ := F
          refine st34 Lr hLR2 rfl rfl rfl rfl ?_
          have F : Fin w (wZ.setCells (w.heap.size + 1 + 1 + 1 + 1 + 1) 0 lR2) (w.heap.size + 1 + 1) (w.heap.size + 1 + 1 + 1) (w.heap.size + 1 + 1 + 1 + 1) (w.heap.size + 1 + 1 + 1 + 1 + 1) lQ lR2 := ⟨below_setCells _ _ _ _ _ _ hB (by omega), Lq.other (by omega) _, Lr.set hLR2, by rw [size_setCells]; exact hz4, by rw [size_setCells]; exact hz5, ⟨m4, cells_other C4 (by omega) _⟩, ⟨m5, cells_other C5 (by omega) _⟩⟩
          replace Ld := Ld.other (c := w.heap.size + 1 + 1 + 1 + 1 + 1) (by omega) lR2
          replace La := La.other (c := w.heap.size + 1 + 1 + 1 + 1 + 1) (by omega) lR2
          clear C4 C5 Lq Lr hB hz4 hz5 hK
          generalize wZ.setCells (w.heap.size + 1 + 1 + 1 + 1 + 1) 0 lR2 = wQ at F Ld La ⊢
          go_upto_region 14 with fail
          obtain ⟨hB, Lq, Lr, hz4, hz5, ⟨m4, C4⟩, ⟨m5, C5⟩⟩ := F
          have c0 := Lq.cell hbg
          have f0 := Lq.fz (k := 0) (by decide)
          go_wp2
          clear c0 f0
          have F : Fin w (wQ.setCell ⟨w.heap.size + 1 + 1 + 1 + 1, 0, none⟩ (.int .u64 (y + 1))) (w.heap.size + 1 + 1) (w.heap.size + 1 + 1 + 1) (w.heap.size + 1 + 1 + 1 + 1) (w.heap.size + 1 + 1 + 1 + 1 + 1) lQ2 lR2 := ⟨hB.setCell (p := ⟨w.heap.size + 1 + 1 + 1 + 1, 0, none⟩) (show w.heap.size ≤ w.heap.size + 1 + 1 + 1 + 1 by omega) _, by rw [← hbs]; exact Lq.setAt hLQ.len (by decide) _, Lr.otherAt (by omega) _, by simpa using hz4, by simpa using hz5, ⟨m4, cells_other C4 (by omega) [.int .u64 (y + 1)]⟩, ⟨m5, cells_other C5 (by omega) [.int .u64 (y + 1)]⟩⟩
          replace Ld := Ld.otherAt (c := w.heap.size + 1 + 1 + 1 + 1) (k := 0) (by omega) (.int .u64 (y + 1))
          replace La := La.otherAt (c := w.heap.size + 1 + 1 + 1 + 1) (k := 0) (by omega) (.int .u64 (y + 1))
          clear C4 C5 Lq Lr hB hz4 hz5
          go_roundw
          case rel =>
            refine ⟨?_, La, Ld⟩
            rcases j with _ | j
            · right
              refine ⟨by go_num, ?_⟩
              rw [← hDa rfl, hq1, hr1]
              exact F
            · left
              refine ⟨j, by go_num, by omega, ?_⟩
              rw [hDD, hq1, hr1]
              exact F
          case measure => simp [intOf]
        · go_simp
          refine (hbit _).mono ?_
          rintro e wA ⟨rfl, hbn⟩
          go_wp2_with fail
          refine hK.out _ _ ⟨hH.1.trans (hbn.mono hH.1.size), hH.2.below hbn⟩ (fun hH => ?_)
          replace F := F.keep hbn
          replace Ld := Ld.below hbn
          clear hbn hK K
          refine wpAnyH_ready (rs := [0]) (by kernel_rfl) (by simp) ?_
          refine AllReadyH.cons rfl (fun K hK => ?_) AllReadyH.nil
          refine wp_load_mid 34 _ rfl (w.heap.size + 1 + 1 + 1 + 1 + 1) 0 rfl lr _ F.2.2.1.r Try.underlying34 rfl (by rw [hLr.len]; exact i34) ?_
          refine hK.out _ _ hH (fun hH => ?_)
          clear hK K
          simp only [Act.put, List.setIfInBounds_toArray]
          refine wpAnyH_ready (rs := [4]) (by kernel_rfl) (by simp) ?_
          refine AllReadyH.cons rfl (fun K hK => ?_) AllReadyH.nil
          go_simp
          refine (hT _).mono ?_
          rintro e wT ⟨rfl, hbn⟩
          go_wp2_with fail
          refine hK.out _ _ ⟨hH.1.trans (hbn.mono hH.1.size), hH.2.below hbn⟩ (fun hH => ?_)
          replace F := F.keep hbn
          replace Ld := Ld.below hbn
          clear hbn hK K
          refine wpAnyH_ready (rs := [5]) (by kernel_rfl) (by simp) ?_
          refine AllReadyH.cons rfl (fun K hK => ?_) AllReadyH.nil
          obtain ⟨hB, Lq, Lr, hz4, hz5, ⟨m4, C4⟩, ⟨m5, C5⟩⟩ := F
          refine wp_store_mid 34 _ _ rfl (w.heap.size + 1 + 1 + 1 + 1 + 1) 0 lR.toArray rfl rfl (by simpa [hLR.len] using Lr.t) (by simpa [hLR.len] using i34) hLR.one ?_
          have F : Fin w (wT.setCells (w.heap.size + 1 + 1 + 1 + 1 + 1) 0 lR) (w.heap.size + 1 + 1) (w.heap.size + 1 + 1 + 1) (w.heap.size + 1 + 1 + 1 + 1) (w.heap.size + 1 + 1 + 1 + 1 + 1) lq lR := ⟨below_setCells _ _ _ _ _ _ hB (by omega), Lq.other (by omega) _, Lr.set hLR, by rw [size_setCells]; exact hz4, by rw [size_setCells]; exact hz5, ⟨m4, cells_other C4 (by omega) _⟩, ⟨m5, cells_other C5 (by omega) _⟩⟩
          replace Ld := Ld.other (c := w.heap.size + 1 + 1 + 1 + 1 + 1) (by omega) lR
          refine hK.out _ _ ⟨F.1, hH.2.other (by omega) _⟩ (fun hH => ?_)
          clear hK K C4 C5 Lq Lr hB hz4 hz5
          refine wpAnyH_done (by kernel_rfl) ?_ _
          replace La := hH.2
          clear hH
          generalize wT.setCells (w.heap.size + 1 + 1 + 1 + 1 + 1) 0 lR = wU at F Ld La ⊢
          go_upto_region 10 with fail
          obtain ⟨hB, Lq, Lr, hz4, hz5, ⟨m4, C4⟩, ⟨m5, C5⟩⟩ := F
          refine wp_region_list ?_
          refine ld34 Lq hLq rfl rfl rfl ?_
          go_wp2_with fail
          refine (hQ2 _).mono ?_
          rintro e wV ⟨rfl, hbn⟩
          rename_i K hK
          refine hK _ _ ?_
          have F := Fin.keep (⟨hB, Lq, Lr, hz4, hz5, ⟨m4, C4⟩, ⟨m5, C5⟩⟩ : Fin w wU (w.heap.size + 1 + 1) (w.heap.size + 1 + 1 + 1) (w.heap.size + 1 + 1 + 1 + 1) (w.heap.size + 1 + 1 + 1 + 1 + 1) lq lR) hbn
          replace La := La.below hbn
          replace Ld := Ld.below hbn
          clear hbn hB Lq Lr hz4 hz5 C4 C5
          obtain ⟨hB, Lq, Lr, hz4, hz5, ⟨m4, C4⟩, ⟨m5, C5⟩⟩ := F
          refine st34 Lq hLQ rfl rfl rfl rfl ?_
          have F : Fin w (wV.setCells (w.heap.size + 1 + 1 + 1 + 1) 0 lQ) (w.heap.size + 1 + 1) (w.heap.size + 1 + 1 + 1) (w.heap.size + 1 + 1 + 1 + 1) (w.heap.size + 1 + 1 + 1 + 1 + 1) lQ lR := ⟨below_setCells _ _ _ _ _ _ hB (by omega), Lq.set hLQ, Lr.other (by omega) _, by rw [size_setCells]; exact hz4, by rw [size_setCells]; exact hz5, ⟨m4, cells_other C4 (by omega) _⟩, ⟨m5, cells_other C5 (by omega) _⟩⟩
          replace Ld := Ld.other (c := w.heap.size + 1 + 1 + 1 + 1) (by omega) lQ
          replace La := La.other (c := w.heap.size + 1 + 1 + 1 + 1) (by omega) lQ
          clear C4 C5 Lq Lr hB hz4 hz5 hK
          generalize wV.setCells (w.heap.size + 1 + 1 + 1 + 1) 0 lQ = wX at F Ld La ⊢
          go_upto_region 11 with fail
          refine wp_region_list ?_
          refine ld34 F.2.2.1 hLR rfl rfl rfl ?_
          refine ld34 Ld hLd rfl rfl rfl ?_
          go_wp2_with fail
          refine (hBl _).mono ?_
          rintro e wY ⟨rfl, hbn⟩
          replace F := F.keep hbn
          replace La := La.below hbn
          replace Ld := Ld.below hbn
          clear hbn
          go_upto_region 13 with fail
          refine wp_region_list ?_
          refine ld34 F.2.2.1 hLR rfl rfl rfl ?_
          refine ld34 Ld hLd rfl rfl rfl ?_
          go_wp2_with fail
          refine (hMi _).mono ?_
          rintro e wZ ⟨rfl, hbn⟩
          rename_i K hK
          refine hK _ _ ?_
          replace F := F.keep hbn
          replace La := La.below hbn
          replace Ld := Ld.below hbn
          clear hbn
          obtain ⟨hB, Lq, Lr, hz4, hz5, ⟨m4, C4⟩, ⟨m5, C5⟩⟩ := F
          refine st34 Lr hLR2 rfl rfl rfl rfl ?_
          have F : Fin w (wZ.setCells (w.heap.size + 1 + 1 + 1 + 1 + 1) 0 lR2) (w.heap.size + 1 + 1) (w.heap.size + 1 + 1 + 1) (w.heap.size + 1 + 1 + 1 + 1) (w.heap.size + 1 + 1 + 1 + 1 + 1) lQ lR2 := ⟨below_setCells _ _ _ _ _ _ hB (by omega), Lq.other (by omega) _, Lr.set hLR2, by rw [size_setCells]; exact hz4, by rw [size_setCells]; exact hz5, ⟨m4, cells_other C4 (by omega) _⟩, ⟨m5, cells_other C5 (by omega) _⟩⟩
          replace Ld := Ld.other (c := w.heap.size + 1 + 1 + 1 + 1 + 1) (by omega) lR2
          replace La := La.other (c := w.heap.size + 1 + 1 + 1 + 1 + 1) (by omega) lR2
          clear C4 C5 Lq Lr hB hz4 hz5 hK
          generalize wZ.setCells (w.heap.size + 1 + 1 + 1 + 1 + 1) 0 lR2 = wQ at F Ld La ⊢
          go_upto_region 14 with fail
          obtain ⟨hB, Lq, Lr, hz4, hz5, ⟨m4, C4⟩, ⟨m5, C5⟩⟩ := F
          have c0 := Lq.cell hbg
          have f0 := Lq.fz (k := 0) (by decide)
          go_wp2
          clear c0 f0
          have F : Fin w (wQ.setCell ⟨w.heap.size + 1 + 1 + 1 + 1, 0, none⟩ (.int .u64 (y + 1))) (w.heap.size + 1 + 1) (w.heap.size + 1 + 1 + 1) (w.heap.size + 1 + 1 + 1 + 1) (w.heap.size + 1 + 1 + 1 + 1 + 1) lQ2 lR2 := ⟨hB.setCell (p := ⟨w.heap.size + 1 + 1 + 1 + 1, 0, none⟩) (show w.heap.size ≤ w.heap.size + 1 + 1 + 1 + 1 by omega) _, by rw [← hbs]; exact Lq.setAt hLQ.len (by decide) _, Lr.otherAt (by omega) _, by simpa using hz4, by simpa using hz5, ⟨m4, cells_other C4 (by omega) [.int .u64 (y + 1)]⟩, ⟨m5, cells_other C5 (by omega) [.int .u64 (y + 1)]⟩⟩
          replace Ld := Ld.otherAt (c := w.heap.size + 1 + 1 + 1 + 1) (k := 0) (by omega) (.int .u64 (y + 1))
          replace La := La.otherAt (c := w.heap.size + 1 + 1 + 1 + 1) (k := 0) (by omega) (.int .u64 (y + 1))
          clear C4 C5 Lq Lr hB hz4 hz5
          go_roundw
          case rel =>
            refine ⟨?_, La, Ld⟩
            rcases j with _ | j
            · right
              refine ⟨by go_num, ?_⟩
              rw [← hDa rfl, hq1, hr1]
              exact F
            · left
              refine ⟨j, by go_num, by omega, ?_⟩
              rw [hDD, hq1, hr1]
              exact F
          case measure => simp [intOf]
    · have hq := wordL (a / b)
      have hr := wordL (a % b)
      have hLq := ll_dl (a / b)
      have hLr := ll_dl (a % b)
      generalize dl (a / b) = lq at F hLq hq
      generalize dl (a % b) = lr at F hLr hr
      go_upto_region 15 with fail
      refine wp_region_held_drew (S := fun W => Fin w W (w.heap.size + 1 + 1) (w.heap.size + 1 + 1 + 1) (w.heap.size + 1 + 1 + 1 + 1) (w.heap.size + 1 + 1 + 1 + 1 + 1) lq lr) (by kernel_rfl) (F.keep (Below.refl _ _).drew) (fun hH => ?_)
      clear F
      refine tk34 (i := 0) (d := some 43) hLq rfl rfl (by kernel_rfl) (by kernel_rfl) (by kernel_rfl) (fun _ _ _ h => h) (by rfl) rfl rfl (fun W hW => hW.2.1) hH ?_
      simp only [Act.put, List.setIfInBounds_toArray, List.set_cons_zero, List.set_cons_succ]
      refine tk34 (i := 2) (d := some 45) hLr rfl rfl (by kernel_rfl) (by kernel_rfl) (by kernel_rfl) (fun _ _ _ h => h) (by rfl) rfl rfl (fun W hW => hW.2.2.1) hH ?_
      simp only [Act.put, List.setIfInBounds_toArray, List.set_cons_zero, List.set_cons_succ]
      refine wpAnyH_ready (rs := [1]) (by kernel_rfl) (by simp) ?_
      refine AllReadyH.cons rfl (fun K hK => ?_) AllReadyH.nil
      go_simp
      refine (hq _).mono ?_
      rintro e wA ⟨rfl, hbn⟩
      go_wp2_with fail
      refine hK.out _ _ (Fin.keep hH hbn) (fun hH => ?_)
      clear hbn hK K
      refine wpAnyH_ready (rs := [3]) (by kernel_rfl) (by simp) ?_
      refine AllReadyH.cons rfl (fun K hK => ?_) AllReadyH.nil
      go_simp
      refine (hr _).mono ?_
      rintro e wB ⟨rfl, hbn⟩
      go_wp2_with fail
      refine hK.out _ _ (Fin.keep hH hbn) (fun hH => ?_)
      clear hbn hK K
      refine wpAnyH_ready (rs := [4]) (by kernel_rfl) (by simp) ?_
      refine AllReadyH.cons rfl (fun K hK => ?_) AllReadyH.nil
      obtain ⟨hB, Lq, Lr, hz4, hz5, ⟨m4, C4⟩, ⟨m5, C5⟩⟩ := hH
      obtain ⟨x0, x1, x2, x3, x4, x5, x6, x7⟩ := id C4
      go_simp
      clear x0 x1 x2 x3 x4 x5 x6 x7
      have E4 : Cells4 ((((wB.setCell ⟨w.heap.size + 1 + 1, 0, none⟩ (.int .u64 (lim (a / b % M) 0))).setCell ⟨w.heap.size + 1 + 1, 1, none⟩ (.int .u64 (lim (a / b % M) 1))).setCell ⟨w.heap.size + 1 + 1, 2, none⟩ (.int .u64 (lim (a / b % M) 2))).setCell ⟨w.heap.size + 1 + 1, 3, none⟩ (.int .u64 (lim (a / b % M) 3))) (w.heap.size + 1 + 1) (a / b % M) := C4.set (a / b % M)
      have G5 : Cells4 ((((wB.setCell ⟨w.heap.size + 1 + 1, 0, none⟩ (.int .u64 (lim (a / b % M) 0))).setCell ⟨w.heap.size + 1 + 1, 1, none⟩ (.int .u64 (lim (a / b % M) 1))).setCell ⟨w.heap.size + 1 + 1, 2, none⟩ (.int .u64 (lim (a / b % M) 2))).setCell ⟨w.heap.size + 1 + 1, 3, none⟩ (.int .u64 (lim (a / b % M) 3))) (w.heap.size + 1 + 1 + 1) m5 := C5.other (by omega) (a / b % M)
      have GB : Below w.heap.size w ((((wB.setCell ⟨w.heap.size + 1 + 1, 0, none⟩ (.int .u64 (lim (a / b % M) 0))).setCell ⟨w.heap.size + 1 + 1, 1, none⟩ (.int .u64 (lim (a / b % M) 1))).setCell ⟨w.heap.size + 1 + 1, 2, none⟩ (.int .u64 (lim (a / b % M) 2))).setCell ⟨w.heap.size + 1 + 1, 3, none⟩ (.int .u64 (lim (a / b % M) 3))) := set4_below hB (by omega) (a / b % M)
      have Gq : LH ((((wB.setCell ⟨w.heap.size + 1 + 1, 0, none⟩ (.int .u64 (lim (a / b % M) 0))).setCell ⟨w.heap.size + 1 + 1, 1, none⟩ (.int .u64 (lim (a / b % M) 1))).setCell ⟨w.heap.size + 1 + 1, 2, none⟩ (.int .u64 (lim (a / b % M) 2))).setCell ⟨w.heap.size + 1 + 1, 3, none⟩ (.int .u64 (lim (a / b % M) 3))) (w.heap.size + 1 + 1 + 1 + 1) lq := Lq.set4 (by omega) (a / b % M)
      have Gr : LH ((((wB.setCell ⟨w.heap.size + 1 + 1, 0, none⟩ (.int .u64 (lim (a / b % M) 0))).setCell ⟨w.heap.size + 1 + 1, 1, none⟩ (.int .u64 (lim (a / b % M) 1))).setCell ⟨w.heap.size + 1 + 1, 2, none⟩ (.int .u64 (lim (a / b % M) 2))).setCell ⟨w.heap.size + 1 + 1, 3, none⟩ (.int .u64 (lim (a / b % M) 3))) (w.heap.size + 1 + 1 + 1 + 1 + 1) lr := Lr.set4 (by omega) (a / b % M)
      have Gz : ((((wB.setCell ⟨w.heap.size + 1 + 1, 0, none⟩ (.int .u64 (lim (a / b % M) 0))).setCell ⟨w.heap.size + 1 + 1, 1, none⟩ (.int .u64 (lim (a / b % M) 1))).setCell ⟨w.heap.size + 1 + 1, 2, none⟩ (.int .u64 (lim (a / b % M) 2))).setCell ⟨w.heap.size + 1 + 1, 3, none⟩ (.int .u64 (lim (a / b % M) 3))).heap.size = wB.heap.size := by simp
      refine hK.out _ _ ⟨GB, Gq, Gr, by rw [Gz]; exact hz4, by rw [Gz]; exact hz5, ⟨_, E4⟩, ⟨_, G5⟩⟩ (fun hH => ?_)
      clear hK K GB Gq Gr C4 C5 Lq Lr hB hz4 hz5 Gz
      generalize (((wB.setCell ⟨w.heap.size + 1 + 1, 0, none⟩ (.int .u64 (lim (a / b % M) 0))).setCell ⟨w.heap.size + 1 + 1, 1, none⟩ (.int .u64 (lim (a / b % M) 1))).setCell ⟨w.heap.size + 1 + 1, 2, none⟩ (.int .u64 (lim (a / b % M) 2))).setCell ⟨w.heap.size + 1 + 1, 3, none⟩ (.int .u64 (lim (a / b % M) 3)) = wC at hH E4 G5 ⊢
      refine wpAnyH_ready (rs := [5]) (by kernel_rfl) (by simp) ?_
      refine AllReadyH.cons rfl (fun K hK => ?_) AllReadyH.nil
      obtain ⟨hB, Lq, Lr, hz4, hz5, -, -⟩ := hH
      obtain ⟨x0, x1, x2, x3, x4, x5, x6, x7⟩ := id G5
      go_simp
      clear x0 x1 x2 x3 x4 x5 x6 x7
      replace E4 : Cells4 ((((wC.setCell ⟨w.heap.size + 1 + 1 + 1, 0, none⟩ (.int .u64 (lim (a % b % M) 0))).setCell ⟨w.heap.size + 1 + 1 + 1, 1, none⟩ (.int .u64 (lim (a % b % M) 1))).setCell ⟨w.heap.size + 1 + 1 + 1, 2, none⟩ (.int .u64 (lim (a % b % M) 2))).setCell ⟨w.heap.size + 1 + 1 + 1, 3, none⟩ (.int .u64 (lim (a % b % M) 3))) (w.heap.size + 1 + 1) (a / b % M) := E4.other (by omega) (a % b % M)
      have E5 : Cells4 ((((wC.setCell ⟨w.heap.size + 1 + 1 + 1, 0, none⟩ (.int .u64 (lim (a % b % M) 0))).setCell ⟨w.heap.size + 1 + 1 + 1, 1, none⟩ (.int .u64 (lim (a % b % M) 1))).setCell ⟨w.heap.size + 1 + 1 + 1, 2, none⟩ (.int .u64 (lim (a % b % M) 2))).setCell ⟨w.heap.size + 1 + 1 + 1, 3, none⟩ (.int .u64 (lim (a % b % M) 3))) (w.heap.size + 1 + 1 + 1) (a % b % M) := G5.set (a % b % M)
      have GB : Below w.heap.size w ((((wC.setCell ⟨w.heap.size + 1 + 1 + 1, 0, none⟩ (.int .u64 (lim (a % b % M) 0))).setCell ⟨w.heap.size + 1 + 1 + 1, 1, none⟩ (.int .u64 (lim (a % b % M) 1))).setCell ⟨w.heap.size + 1 + 1 + 1, 2, none⟩ (.int .u64 (lim (a % b % M) 2))).setCell ⟨w.heap.size + 1 + 1 + 1, 3, none⟩ (.int .u64 (lim (a % b % M) 3))) := set4_below hB (by omega) (a % b % M)
      have Gq : LH ((((wC.setCell ⟨w.heap.size + 1 + 1 + 1, 0, none⟩ (.int .u64 (lim (a % b % M) 0))).setCell ⟨w.heap.size + 1 + 1 + 1, 1, none⟩ (.int .u64 (lim (a % b % M) 1))).setCell ⟨w.heap.size + 1 + 1 + 1, 2, none⟩ (.int .u64 (lim (a % b % M) 2))).setCell ⟨w.heap.size + 1 + 1 + 1, 3, none⟩ (.int .u64 (lim (a % b % M) 3))) (w.heap.size + 1 + 1 + 1 + 1) lq := Lq.set4 (by omega) (a % b % M)
      have Gr : LH ((((wC.setCell ⟨w.heap.size + 1 + 1 + 1, 0, none⟩ (.int .u64 (lim (a % b % M) 0))).setCell ⟨w.heap.size + 1 + 1 + 1, 1, none⟩ (.int .u64 (lim (a % b % M) 1))).setCell ⟨w.heap.size + 1 + 1 + 1, 2, none⟩ (.int .u64 (lim (a % b % M) 2))).setCell ⟨w.heap.size + 1 + 1 + 1, 3, none⟩ (.int .u64 (lim (a % b % M) 3))) (w.heap.size + 1 + 1 + 1 + 1 + 1) lr := Lr.set4 (by omega) (a % b % M)
      have Gz : ((((wC.setCell ⟨w.heap.size + 1 + 1 + 1, 0, none⟩ (.int .u64 (lim (a % b % M) 0))).setCell ⟨w.heap.size + 1 + 1 + 1, 1, none⟩ (.int .u64 (lim (a % b % M) 1))).setCell ⟨w.heap.size + 1 + 1 + 1, 2, none⟩ (.int .u64 (lim (a % b % M) 2))).setCell ⟨w.heap.size + 1 + 1 + 1, 3, none⟩ (.int .u64 (lim (a % b % M) 3))).heap.size = wC.heap.size := by simp
      refine hK.out _ _ ⟨GB, Gq, Gr, by rw [Gz]; exact hz4, by rw [Gz]; exact hz5, ⟨_, E4⟩, ⟨_, E5⟩⟩ (fun hH => ?_)
      clear hK K Gq Gr Lq Lr hB hz4 hz5 Gz G5 hH
      generalize (((wC.setCell ⟨w.heap.size + 1 + 1 + 1, 0, none⟩ (.int .u64 (lim (a % b % M) 0))).setCell ⟨w.heap.size + 1 + 1 + 1, 1, none⟩ (.int .u64 (lim (a % b % M) 1))).setCell ⟨w.heap.size + 1 + 1 + 1, 2, none⟩ (.int .u64 (lim (a % b % M) 2))).setCell ⟨w.heap.size + 1 + 1 + 1, 3, none⟩ (.int .u64 (lim (a % b % M) 3)) = wD at GB E4 E5 ⊢
      refine wpAnyH_done (by kernel_rfl) ?_ _
      obtain ⟨x0, x1, x2, x3, -, -, -, -⟩ := E4
      obtain ⟨y0, y1, y2, y3, -, -, -, -⟩ := E5
      go_wp2
      simp [bodyPost, results, Try.results18, go_sem, x0, x1, x2, x3, y0, y1, y2, y3]
      exact GB

end Go.Proofs.Ytbephahokhnccaa
