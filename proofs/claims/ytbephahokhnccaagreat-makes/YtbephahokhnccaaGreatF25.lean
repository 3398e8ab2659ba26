/-
  The book of lists: looks (6).
-/
import Derived.Test.YtbephahokhnccaaGreatF24
namespace Go.Mark
open Go.RowKit Go.Proofs
theorem Book.entA {W : World} {bk : Nat} {B : Bk} (h : Book W bk B) : B.va.n = B.aa.length ∧ ∀ k (hk : k < B.aa.length), ∃ g, B.va.a = some ⟨g, 0, none⟩ ∧ W.cell? ⟨g, k * 2, none⟩ = some (.slice B.aa[k].1.a B.aa[k].1.n B.aa[k].1.c) ∧ W.cell? ⟨g, k * 2 + 1, none⟩ = some (.int .i64 (-(B.aa[k].2 : Int))) := by
  have ho := h.oa
  constructor
  · rcases ho.2 with ⟨h1, h2⟩ | ⟨g, cap, cur, h1, _⟩
    · simp only [Value.slice.injEq] at h1; omega
    · simp only [Value.slice.injEq] at h1; exact h1.2.1
  · intro k hk
    obtain ⟨g, cap, he, _, _⟩ := ho.form (by omega)
    have ha := flatN_at B.aa k _ (List.getElem?_eq_getElem hk)
    rw [he] at ho
    refine ⟨g, by simp only [Value.slice.injEq] at he; exact he.1, ?_, ?_⟩
    · rw [ho.cellAt _ (by omega)]; exact ha.1
    · rw [ho.cellAt _ (by omega)]; exact ha.2
theorem Book.entS {W : World} {bk : Nat} {B : Bk} (h : Book W bk B) : B.vs.n = B.ss.length ∧ ∀ k (hk : k < B.ss.length), ∃ g, B.vs.a = some ⟨g, 0, none⟩ ∧ W.cell? ⟨g, k * 2, none⟩ = some (.slice B.ss[k].1.a B.ss[k].1.n B.ss[k].1.c) ∧ W.cell? ⟨g, k * 2 + 1, none⟩ = some (.int .i64 (B.ss[k].2 : Int)) := by
  have ho := h.os
  constructor
  · rcases ho.2 with ⟨h1, h2⟩ | ⟨g, cap, cur, h1, _⟩
    · simp only [Value.slice.injEq] at h1; omega
    · simp only [Value.slice.injEq] at h1; exact h1.2.1
  · intro k hk
    obtain ⟨g, cap, he, _, _⟩ := ho.form (by omega)
    have ha := flatP_at B.ss k _ (List.getElem?_eq_getElem hk)
    rw [he] at ho
    refine ⟨g, by simp only [Value.slice.injEq] at he; exact he.1, ?_, ?_⟩
    · rw [ho.cellAt _ (by omega)]; exact ha.1
    · rw [ho.cellAt _ (by omega)]; exact ha.2
theorem Book.lenL {W : World} {bk : Nat} {B : Bk} (h : Book W bk B) : B.vl.n = 0 := by
  have ho := h.ol
  have hl : B.ls.length = 0 := by
    cases hb : B.ls with
    | nil => rfl
    | cons p l => exact (h.ln p (by rw [hb]; exact List.mem_cons_self ..)).elim
  rcases ho.2 with ⟨h1, h2⟩ | ⟨g, cap, cur, h1, _⟩
  · simp only [Value.slice.injEq] at h1; omega
  · simp only [Value.slice.injEq] at h1; omega
set_option maxRecDepth 100000 in
set_option maxHeartbeats 8000000 in
theorem looks (B : Bk) (bk : Nat) (w : World) (hB : Book w bk B) (hn : B.n < 1000000000) (ha : B.aa.length < 1000000000) (hs : B.ss.length < 1000000000) :
    Calls TryQ.prog 6 #[.pointer (some ⟨bk, 0, none⟩)] w fun e w' => e = .returned (.bool true) ∧ Below w.heap.size w w' := by
  obtain ⟨hva, heA⟩ := hB.entA
  obtain ⟨hvs, heS⟩ := hB.entS
  have hvl := hB.lenL
  have hbk := hB.lt bk (.inl rfl)
  go_enter TryQ.func6, Tryz.ntmps6
  go_wp2_with fail
  go_loopw [3] (fun i W => ∃ k : Nat, i = .int .i64 k ∧ k ≤ B.aa.length ∧ Below w.heap.size w W) (fun i _ => B.aa.length - (Go.RowKit.intOf i).toNat)
  case atStart => exact ⟨0, rfl, Nat.zero_le _, Below.refl _ _⟩
  case round =>
    obtain ⟨k, rfl, hk, hb⟩ := hrel
    have hBr := hB.below hb
    have x1 := hBr.cells 1 _ rfl
    rw [Nat.zero_add] at x1
    by_cases hlt : k < B.aa.length
    · have hlt' : (k : Int) < (B.aa.length : Int) := by omega
      obtain ⟨g, hg, _, _⟩ := heA k hlt
      have hmem := List.getElem_mem hlt
      have he : ∀ W, Book W bk B → W.cell? ⟨g, k * 2, none⟩ = some (.slice B.aa[k].1.a B.aa[k].1.n B.aa[k].1.c) ∧ W.cell? ⟨g, k * 2 + 1, none⟩ = some (.int .i64 (-(B.aa[k].2 : Int))) := fun W hW => by
        obtain ⟨g2, h1, h2⟩ := hW.entA.2 k hlt
        rw [hg] at h1
        cases h1
        exact h2
      have hro : ∀ W, Book W bk B → RowAt W 31 (cA B.aa[k].2) B.aa[k].1 := fun W hW => hW.ra _ hmem
      generalize B.aa[k] = p at *
      obtain ⟨pv, m⟩ := p
      simp only at he hro
      go_wp2_with fail
      go_loopw [4] (fun i W => ∃ i' : Nat, i = .int .i64 i' ∧ i' ≤ pv.n ∧ Below w.heap.size w W) (fun i _ => pv.n - (Go.RowKit.intOf i).toNat)
      case atStart => exact ⟨0, rfl, Nat.zero_le _, hb⟩
      case round =>
        obtain ⟨i, rfl, hi, hb2⟩ := hrel
        have hB2 := hB.below hb2
        have y1 := hB2.cells 1 _ rfl
        rw [Nat.zero_add] at y1
        obtain ⟨z0, z1⟩ := he _ hB2
        by_cases hil : i < pv.n
        · have hil' : (i : Int) < (pv.n : Int) := by omega
          obtain ⟨b, hpa, hc8, hmax, hbl⟩ := (hro _ hB2).cells rfl hil
          have hmax' : (pv.n : Int) ≤ 9223372036854775807 := by simp only [maxLen] at hmax; omega
          have c0 := hc8 0 _ rfl
          have c1 := hc8 1 _ rfl
          have c2 := hc8 2 _ rfl
          have c3 := hc8 3 _ rfl
          have c4 := hc8 4 _ rfl
          have c5 := hc8 5 _ rfl
          have c6 := hc8 6 _ rfl
          have c7 := hc8 7 _ rfl
          rw [Nat.add_zero] at c0
          have hsame := fun W => same (accX m) (accX m) ⟨none, 0, 0⟩ ⟨none, 0, 0⟩ W (by show 0 < M; decide) (by show 0 < M; decide)
          rw [decide_eq_true ⟨rfl, rfl, rfl, rfl⟩] at hsame
          have hcm : Shut (cA m = _) := acc_num m
          have hb3 : Below wr.heap.size wr (wr.alloc (.cells (cA m).toArray 31)) := (Below.refl _ _).alloc (Nat.le_refl _) _
          have hx := cells_new wr (cA m) 31
          go_wp2_with fail
          clear c0 c1 c2 c3 c4 c5 c6 c7
          change Code.wp _ _ _ _ (wr.alloc (.cells (cA m).toArray 31))
          have hB3 := hB2.below hb3
          have hb4 := hb2.trans (hb3.mono hb2.size)
          have hxl : wr.heap.size < (wr.alloc (.cells (cA m).toArray 31)).heap.size := by simp
          generalize wr.alloc (.cells (cA m).toArray 31) = W1 at hB3 hb4 hx hxl ⊢
          generalize wr.heap.size = xb at hx hxl ⊢
          refine wp_region_held_drew (S := fun W => Book W bk B ∧ CellsAt W xb 0 (cA m)) (by kernel_rfl) ⟨hB3.below (Below.refl _ _).drew, hx.below (Below.refl _ _).drew⟩ (fun hH => ?_)
          refine take_d (i := 0) (d := some 44) (v := .agg (cA m).toArray) rfl rfl (by kernel_rfl) (by kernel_rfl) (by kernel_rfl) (fun _ _ _ h => by first | exact h | cases h.1) (Or.inl ⟨by rfl, fun W hW => ?_⟩) hH ?_
          · have k0 := hW.2 0 _ rfl; have k1 := hW.2 1 _ rfl; have k2 := hW.2 2 _ rfl; have k3 := hW.2 3 _ rfl; have k4 := hW.2 4 _ rfl; have k5 := hW.2 5 _ rfl; have k6 := hW.2 6 _ rfl; have k7 := hW.2 7 _ rfl
            simp only [Nat.zero_add] at k0 k1 k2 k3 k4 k5 k6 k7
            clear hW hH
            unfold cA accCells
            go_simp
          simp only [Act.put, List.setIfInBounds_toArray, List.set_cons_zero, List.set_cons_succ]
          refine take_d (i := 1) (d := some 45) (v := .pointer (some ⟨bk, 0, none⟩)) rfl rfl (by kernel_rfl) (by kernel_rfl) (by kernel_rfl) (fun _ _ _ h => by first | exact h | cases h.1) (Or.inl ⟨by rfl, fun W hW => ?_⟩) hH ?_
          · clear hW hH
            go_simp
          simp only [Act.put, List.setIfInBounds_toArray, List.set_cons_zero, List.set_cons_succ]
          refine take_d (i := 2) (d := some 46) (v := .pointer (some ⟨bk, 0, none⟩)) rfl rfl (by kernel_rfl) (by kernel_rfl) (by kernel_rfl) (fun _ _ _ h => by first | exact h | cases h.1) (Or.inl ⟨by rfl, fun W hW => ?_⟩) hH ?_
          · clear hW hH
            go_simp
          simp only [Act.put, List.setIfInBounds_toArray, List.set_cons_zero, List.set_cons_succ]
          refine take_d (i := 3) (d := some 47) (v := .pointer (some ⟨bk, 1, none⟩)) rfl rfl (by kernel_rfl) (by kernel_rfl) (by kernel_rfl) (fun _ _ _ h => by first | exact h | cases h.1) (Or.inl ⟨by rfl, fun W hW => ?_⟩) hH ?_
          · clear hW hH
            go_simp
          simp only [Act.put, List.setIfInBounds_toArray, List.set_cons_zero, List.set_cons_succ]
          refine take_d (i := 4) (d := some 48) (v := .slice (some ⟨g, 0, none⟩) B.aa.length B.va.c) rfl rfl (by kernel_rfl) (by kernel_rfl) (by kernel_rfl) (fun _ _ _ h => by first | exact h | cases h.1) (Or.inl ⟨by rfl, fun W hW => ?_⟩) hH ?_
          · have k0 := hW.1.cells 1 _ rfl
            rw [Nat.zero_add] at k0
            clear hW hH
            go_simp
          simp only [Act.put, List.setIfInBounds_toArray, List.set_cons_zero, List.set_cons_succ]
          refine take_d (i := 5) (d := some 49) (v := .int .i64 (k : Int)) rfl rfl (by kernel_rfl) (by kernel_rfl) (by kernel_rfl) (fun _ _ _ h => by first | exact h | cases h.1) (Or.inl ⟨by rfl, fun W hW => ?_⟩) hH ?_
          · clear hW hH
            go_simp
          simp only [Act.put, List.setIfInBounds_toArray, List.set_cons_zero, List.set_cons_succ]
          refine take_d (i := 6) (d := some 50) (v := .pointer (some ⟨g, k * 2, none⟩)) rfl rfl (by kernel_rfl) (by kernel_rfl) (by kernel_rfl) (fun _ _ _ h => by first | exact h | cases h.1) (Or.inl ⟨by rfl, fun W hW => ?_⟩) hH ?_
          · clear hW hH
            go_simp
          simp only [Act.put, List.setIfInBounds_toArray, List.set_cons_zero, List.set_cons_succ]
          refine take_d (i := 7) (d := some 51) (v := .pointer (some ⟨g, k * 2 + 1, none⟩)) rfl rfl (by kernel_rfl) (by kernel_rfl) (by kernel_rfl) (fun _ _ _ h => by first | exact h | cases h.1) (Or.inl ⟨by rfl, fun W hW => ?_⟩) hH ?_
          · clear hW hH
            go_simp
          simp only [Act.put, List.setIfInBounds_toArray, List.set_cons_zero, List.set_cons_succ]
          refine take_d (i := 8) (d := some 52) (v := .int .i64 (-(m : Int))) rfl rfl (by kernel_rfl) (by kernel_rfl) (by kernel_rfl) (fun _ _ _ h => by first | exact h | cases h.1) (Or.inl ⟨by rfl, fun W hW => ?_⟩) hH ?_
          · have k0 := (he _ hW.1).2
            clear hW hH
            go_simp
          simp only [Act.put, List.setIfInBounds_toArray, List.set_cons_zero, List.set_cons_succ]
          refine take_d (i := 9) (d := some 53) (v := .agg (cA m).toArray) rfl rfl (by kernel_rfl) (by kernel_rfl) (by kernel_rfl) (fun _ _ _ h => by first | exact h | cases h.1) (Or.inl ⟨by rfl, fun W hW => ?_⟩) hH ?_
          · clear hW hH
            rw [hcm.out]
            go_simp
          simp only [Act.put, List.setIfInBounds_toArray, List.set_cons_zero, List.set_cons_succ]
          refine wpAnyH_ready (rs := [10]) (by kernel_rfl) (by simp) ?_
          refine AllReadyH.cons rfl (fun K hK => ?_) AllReadyH.nil
          go_simp
          refine (hsame _).mono ?_
          rintro e wC ⟨rfl, hbn⟩
          go_wp2_with fail
          refine hK.out _ _ ⟨hH.1.below hbn, hH.2.below hbn⟩ (fun hH => ?_)
          clear hK K
          refine take_d (i := 11) (d := some 6) (v := .bool true) rfl rfl (by kernel_rfl) (by kernel_rfl) (by kernel_rfl) (fun _ _ _ h => by first | exact h | cases h.1) (Or.inl ⟨by rfl, fun W hW => ?_⟩) hH ?_
          · clear hW hH
            go_simp
          simp only [Act.put, List.setIfInBounds_toArray, List.set_cons_zero, List.set_cons_succ]
          refine wpAnyH_done (by kernel_rfl) ?_ _
          have hb5 : Below w.heap.size w wC := hb4.drew.trans (hbn.mono hb4.size)
          have k7 := hH.2 7 _ rfl
          rw [Nat.zero_add] at k7
          clear hH hbn
          go_wp2_with fail
          refine ⟨⟨i + 1, by go_num, by omega, hb5⟩, ?_⟩
          simp [Go.RowKit.intOf]; omega
        · have hi' : i = pv.n := by omega
          subst hi'
          go_wp2_with fail
          refine ⟨⟨k + 1, by go_num, by omega, hb2⟩, ?_⟩
          simp [Go.RowKit.intOf]; omega
    · have hk' : k = B.aa.length := by omega
      subst hk'
      go_wp2_with fail
      clear x1 hBr heA hva
      go_loopw [7] (fun i W => ∃ k : Nat, i = .int .i64 k ∧ k ≤ B.ss.length ∧ Below w.heap.size w W) (fun i _ => B.ss.length - (Go.RowKit.intOf i).toNat)
      case atStart => exact ⟨0, rfl, Nat.zero_le _, hb⟩
      case round =>
        clear hb
        obtain ⟨k, rfl, hk, hb⟩ := hrel
        have hBr := hB.below hb
        have x2 := hBr.cells 2 _ rfl
        rw [Nat.zero_add] at x2
        by_cases hlt : k < B.ss.length
        · have hlt' : (k : Int) < (B.ss.length : Int) := by omega
          obtain ⟨g, hg, _, _⟩ := heS k hlt
          have hmem := List.getElem_mem hlt
          have he : ∀ W, Book W bk B → W.cell? ⟨g, k * 2, none⟩ = some (.slice B.ss[k].1.a B.ss[k].1.n B.ss[k].1.c) ∧ W.cell? ⟨g, k * 2 + 1, none⟩ = some (.int .i64 (B.ss[k].2 : Int)) := fun W hW => by
            obtain ⟨g2, h1, h2⟩ := hW.entS.2 k hlt
            rw [hg] at h1
            cases h1
            exact h2
          have hro : ∀ W, Book W bk B → RowAt W 57 (slotCells (B.ss[k].2, 0)) B.ss[k].1 := fun W hW => hW.rs _ hmem
          have hnb := hB.nb _ hmem
          generalize B.ss[k] = p at *
          obtain ⟨pv, m⟩ := p
          simp only at he hro hnb
          go_wp2_with fail
          go_loopw [8] (fun i W => ∃ i' : Nat, i = .int .i64 i' ∧ i' ≤ pv.n ∧ Below w.heap.size w W) (fun i _ => pv.n - (Go.RowKit.intOf i).toNat)
          case atStart => exact ⟨0, rfl, Nat.zero_le _, hb⟩
          case round =>
            obtain ⟨i, rfl, hi, hb2⟩ := hrel
            have hB2 := hB.below hb2
            have y2 := hB2.cells 2 _ rfl
            rw [Nat.zero_add] at y2
            obtain ⟨z0, z1⟩ := he _ hB2
            by_cases hil : i < pv.n
            · have hil' : (i : Int) < (pv.n : Int) := by omega
              obtain ⟨b, hpa, hc8, hmax, hbl⟩ := (hro _ hB2).cells rfl hil
              have hmax' : (pv.n : Int) ≤ 9223372036854775807 := by simp only [maxLen] at hmax; omega
              have hcm : Shut (slotCells (m, 0) = _) := slot_num m (by omega)
              have hwm : IntKind.u64.wrap (m : Int) = (m : Int) := IntWalk.u64_in _ (by omega)
              have hMM : m < M := by have : (1000000000 : Nat) < M := by decide
                                     omega
              have heq := fun W => run_eq57 (m, 0) (m, 0) ⟨hMM, by show 0 < M; decide⟩ ⟨hMM, by show 0 < M; decide⟩ W
              simp only [decide_true, Bool.and_self] at heq
              go_wp2_with fail
              refine wp_region_held_drew (S := fun W => Book W bk B ∧ CellsAt W b (i * 8) (slotCells (m, 0))) (by kernel_rfl) ⟨hB2.below (Below.refl _ _).drew, hc8.below (Below.refl _ _).drew⟩ (fun hH => ?_)
              refine take_d (i := 0) (d := some 85) (v := .pointer (some ⟨bk, 0, none⟩)) rfl rfl (by kernel_rfl) (by kernel_rfl) (by kernel_rfl) (fun _ _ _ h => by first | exact h | cases h.1) (Or.inl ⟨by rfl, fun W hW => ?_⟩) hH ?_
              · clear hW hH
                go_simp
              simp only [Act.put, List.setIfInBounds_toArray, List.set_cons_zero, List.set_cons_succ]
              refine take_d (i := 1) (d := some 86) (v := .pointer (some ⟨bk, 0, none⟩)) rfl rfl (by kernel_rfl) (by kernel_rfl) (by kernel_rfl) (fun _ _ _ h => by first | exact h | cases h.1) (Or.inl ⟨by rfl, fun W hW => ?_⟩) hH ?_
              · clear hW hH
                go_simp
              simp only [Act.put, List.setIfInBounds_toArray, List.set_cons_zero, List.set_cons_succ]
              refine take_d (i := 2) (d := some 87) (v := .pointer (some ⟨bk, 2, none⟩)) rfl rfl (by kernel_rfl) (by kernel_rfl) (by kernel_rfl) (fun _ _ _ h => by first | exact h | cases h.1) (Or.inl ⟨by rfl, fun W hW => ?_⟩) hH ?_
              · clear hW hH
                go_simp
              simp only [Act.put, List.setIfInBounds_toArray, List.set_cons_zero, List.set_cons_succ]
              refine take_d (i := 3) (d := some 88) (v := .slice (some ⟨g, 0, none⟩) B.ss.length B.vs.c) rfl rfl (by kernel_rfl) (by kernel_rfl) (by kernel_rfl) (fun _ _ _ h => by first | exact h | cases h.1) (Or.inl ⟨by rfl, fun W hW => ?_⟩) hH ?_
              · have k0 := hW.1.cells 2 _ rfl
                rw [Nat.zero_add] at k0
                clear hW hH
                go_simp
              simp only [Act.put, List.setIfInBounds_toArray, List.set_cons_zero, List.set_cons_succ]
              refine take_d (i := 4) (d := some 89) (v := .int .i64 (k : Int)) rfl rfl (by kernel_rfl) (by kernel_rfl) (by kernel_rfl) (fun _ _ _ h => by first | exact h | cases h.1) (Or.inl ⟨by rfl, fun W hW => ?_⟩) hH ?_
              · clear hW hH
                go_simp
              simp only [Act.put, List.setIfInBounds_toArray, List.set_cons_zero, List.set_cons_succ]
              refine take_d (i := 5) (d := some 90) (v := .pointer (some ⟨g, k * 2, none⟩)) rfl rfl (by kernel_rfl) (by kernel_rfl) (by kernel_rfl) (fun _ _ _ h => by first | exact h | cases h.1) (Or.inl ⟨by rfl, fun W hW => ?_⟩) hH ?_
              · clear hW hH
                go_simp
              simp only [Act.put, List.setIfInBounds_toArray, List.set_cons_zero, List.set_cons_succ]
              refine take_d (i := 6) (d := some 91) (v := .pointer (some ⟨g, k * 2, none⟩)) rfl rfl (by kernel_rfl) (by kernel_rfl) (by kernel_rfl) (fun _ _ _ h => by first | exact h | cases h.1) (Or.inl ⟨by rfl, fun W hW => ?_⟩) hH ?_
              · clear hW hH
                go_simp
              simp only [Act.put, List.setIfInBounds_toArray, List.set_cons_zero, List.set_cons_succ]
              refine take_d (i := 7) (d := some 92) (v := .slice (some ⟨b, 0, none⟩) pv.n pv.c) rfl rfl (by kernel_rfl) (by kernel_rfl) (by kernel_rfl) (fun _ _ _ h => by first | exact h | cases h.1) (Or.inl ⟨by rfl, fun W hW => ?_⟩) hH ?_
              · have k0 := (he _ hW.1).1
                clear hW hH
                go_simp
              simp only [Act.put, List.setIfInBounds_toArray, List.set_cons_zero, List.set_cons_succ]
              refine take_d (i := 8) (d := some 93) (v := .int .i64 (i : Int)) rfl rfl (by kernel_rfl) (by kernel_rfl) (by kernel_rfl) (fun _ _ _ h => by first | exact h | cases h.1) (Or.inl ⟨by rfl, fun W hW => ?_⟩) hH ?_
              · clear hW hH
                go_simp
              simp only [Act.put, List.setIfInBounds_toArray, List.set_cons_zero, List.set_cons_succ]
              refine take_d (i := 9) (d := some 94) (v := .pointer (some ⟨b, i * 8, none⟩)) rfl rfl (by kernel_rfl) (by kernel_rfl) (by kernel_rfl) (fun _ _ _ h => by first | exact h | cases h.1) (Or.inl ⟨by rfl, fun W hW => ?_⟩) hH ?_
              · clear hW hH
                go_simp
              simp only [Act.put, List.setIfInBounds_toArray, List.set_cons_zero, List.set_cons_succ]
              refine take_d (i := 10) (d := some 95) (v := .agg (slotCells (m, 0)).toArray) rfl rfl (by kernel_rfl) (by kernel_rfl) (by kernel_rfl) (fun _ _ _ h => by first | exact h | cases h.1) (Or.inl ⟨by rfl, fun W hW => ?_⟩) hH ?_
              · have k0 := hW.2 0 _ rfl; have k1 := hW.2 1 _ rfl; have k2 := hW.2 2 _ rfl; have k3 := hW.2 3 _ rfl; have k4 := hW.2 4 _ rfl; have k5 := hW.2 5 _ rfl; have k6 := hW.2 6 _ rfl; have k7 := hW.2 7 _ rfl
                rw [Nat.add_zero] at k0
                clear hW hH
                unfold slotCells
                go_simp
              simp only [Act.put, List.setIfInBounds_toArray, List.set_cons_zero, List.set_cons_succ]
              refine take_d (i := 11) (d := some 96) (v := .pointer (some ⟨bk, 0, none⟩)) rfl rfl (by kernel_rfl) (by kernel_rfl) (by kernel_rfl) (fun _ _ _ h => by first | exact h | cases h.1) (Or.inl ⟨by rfl, fun W hW => ?_⟩) hH ?_
              · clear hW hH
                go_simp
              simp only [Act.put, List.setIfInBounds_toArray, List.set_cons_zero, List.set_cons_succ]
              refine take_d (i := 12) (d := some 97) (v := .pointer (some ⟨bk, 0, none⟩)) rfl rfl (by kernel_rfl) (by kernel_rfl) (by kernel_rfl) (fun _ _ _ h => by first | exact h | cases h.1) (Or.inl ⟨by rfl, fun W hW => ?_⟩) hH ?_
              · clear hW hH
                go_simp
              simp only [Act.put, List.setIfInBounds_toArray, List.set_cons_zero, List.set_cons_succ]
              refine take_d (i := 13) (d := some 98) (v := .pointer (some ⟨bk, 2, none⟩)) rfl rfl (by kernel_rfl) (by kernel_rfl) (by kernel_rfl) (fun _ _ _ h => by first | exact h | cases h.1) (Or.inl ⟨by rfl, fun W hW => ?_⟩) hH ?_
              · clear hW hH
                go_simp
              simp only [Act.put, List.setIfInBounds_toArray, List.set_cons_zero, List.set_cons_succ]
              refine take_d (i := 14) (d := some 99) (v := .slice (some ⟨g, 0, none⟩) B.ss.length B.vs.c) rfl rfl (by kernel_rfl) (by kernel_rfl) (by kernel_rfl) (fun _ _ _ h => by first | exact h | cases h.1) (Or.inl ⟨by rfl, fun W hW => ?_⟩) hH ?_
              · have k0 := hW.1.cells 2 _ rfl
                rw [Nat.zero_add] at k0
                clear hW hH
                go_simp
              simp only [Act.put, List.setIfInBounds_toArray, List.set_cons_zero, List.set_cons_succ]
              refine take_d (i := 15) (d := some 100) (v := .int .i64 (k : Int)) rfl rfl (by kernel_rfl) (by kernel_rfl) (by kernel_rfl) (fun _ _ _ h => by first | exact h | cases h.1) (Or.inl ⟨by rfl, fun W hW => ?_⟩) hH ?_
              · clear hW hH
                go_simp
              simp only [Act.put, List.setIfInBounds_toArray, List.set_cons_zero, List.set_cons_succ]
              refine take_d (i := 16) (d := some 101) (v := .pointer (some ⟨g, k * 2, none⟩)) rfl rfl (by kernel_rfl) (by kernel_rfl) (by kernel_rfl) (fun _ _ _ h => by first | exact h | cases h.1) (Or.inl ⟨by rfl, fun W hW => ?_⟩) hH ?_
              · clear hW hH
                go_simp
              simp only [Act.put, List.setIfInBounds_toArray, List.set_cons_zero, List.set_cons_succ]
              refine take_d (i := 17) (d := some 102) (v := .pointer (some ⟨g, k * 2 + 1, none⟩)) rfl rfl (by kernel_rfl) (by kernel_rfl) (by kernel_rfl) (fun _ _ _ h => by first | exact h | cases h.1) (Or.inl ⟨by rfl, fun W hW => ?_⟩) hH ?_
              · clear hW hH
                go_simp
              simp only [Act.put, List.setIfInBounds_toArray, List.set_cons_zero, List.set_cons_succ]
              refine take_d (i := 18) (d := some 103) (v := .int .i64 (m : Int)) rfl rfl (by kernel_rfl) (by kernel_rfl) (by kernel_rfl) (fun _ _ _ h => by first | exact h | cases h.1) (Or.inl ⟨by rfl, fun W hW => ?_⟩) hH ?_
              · have k0 := (he _ hW.1).2
                clear hW hH
                go_simp
              simp only [Act.put, List.setIfInBounds_toArray, List.set_cons_zero, List.set_cons_succ]
              refine take_d (i := 19) (d := some 104) (v := .int .u64 (m : Int)) rfl rfl (by kernel_rfl) (by kernel_rfl) (by kernel_rfl) (fun _ _ _ h => by first | exact h | cases h.1) (Or.inl ⟨by rfl, fun W hW => ?_⟩) hH ?_
              · clear hW hH
                go_simp
              simp only [Act.put, List.setIfInBounds_toArray, List.set_cons_zero, List.set_cons_succ]
              refine take_d (i := 20) (d := some 105) (v := .agg #[.int .u64 (m : Int), .int .u64 0, .int .u64 0, .int .u64 0]) rfl rfl (by kernel_rfl) (by kernel_rfl) (by kernel_rfl) (fun _ _ _ h => by first | exact h | cases h.1) (Or.inl ⟨by rfl, fun W hW => ?_⟩) hH ?_
              · clear hW hH
                go_simp
              simp only [Act.put, List.setIfInBounds_toArray, List.set_cons_zero, List.set_cons_succ]
              refine take_d (i := 21) (d := some 106) (v := .agg (slotCells (m, 0)).toArray) rfl rfl (by kernel_rfl) (by kernel_rfl) (by kernel_rfl) (fun _ _ _ h => by first | exact h | cases h.1) (Or.inl ⟨by rfl, fun W hW => ?_⟩) hH ?_
              · clear hW hH
                rw [hcm.out]
                go_simp
              simp only [Act.put, List.setIfInBounds_toArray, List.set_cons_zero, List.set_cons_succ]
              refine take_d (i := 22) (d := some 107) (v := .bool false) rfl rfl (by kernel_rfl) (by kernel_rfl) (by kernel_rfl) (fun _ _ _ h => by first | exact h | cases h.1) (Or.inl ⟨by rfl, fun W hW => ?_⟩) hH ?_
              · clear hW hH
                go_simp
              simp only [Act.put, List.setIfInBounds_toArray, List.set_cons_zero, List.set_cons_succ]
              refine wpAnyH_done (by kernel_rfl) ?_ _
              have hb5 : Below w.heap.size w wr.drew := hb2.drew
              go_wp2_with fail
              refine ⟨⟨i + 1, by go_num, by omega, hb5⟩, ?_⟩
              simp [Go.RowKit.intOf]; omega
            · have hi' : i = pv.n := by omega
              subst hi'
              go_wp2_with fail
              refine ⟨⟨k + 1, by go_num, by omega, hb2⟩, ?_⟩
              simp [Go.RowKit.intOf]; omega
        · have hk' : k = B.ss.length := by omega
          subst hk'
          go_wp2_with fail
          clear x2 hBr heS hvs
          go_loopw [9] (fun i W => i = .int .i64 0 ∧ Below w.heap.size w W) (fun _ _ => 0)
          case atStart => exact ⟨rfl, hb⟩
          case round =>
            clear hb
            obtain ⟨rfl, hb⟩ := hrel
            have hBr := hB.below hb
            have x3 := hBr.cells 3 _ rfl
            rw [Nat.zero_add] at x3
            go_wp2_with fail
            simp [bodyPost, results, Tryz.results6, go_sem]
            exact hb
end Go.Mark
