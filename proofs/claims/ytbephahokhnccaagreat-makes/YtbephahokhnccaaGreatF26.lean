/-
 The law's all (5): one Accounts of each world.
-/
import Derived.Test.YtbephahokhnccaaGreatF25
namespace Go.Mark
open Go.RowKit Go.Proofs
theorem Lists.below {B : Nat} {W W' : World} {v : SV} {os : List (AccD × SV)} (h : Lists B W v os) (hb : Below W.heap.size W W') : Lists B W' v os := ⟨own_below h.own hb, fun p hp => own_below (h.sl p hp) hb, h.far, h.apart⟩
theorem Lists.base {B B' : Nat} {W : World} {v : SV} {os : List (AccD × SV)} (h : Lists B W v os) (hb : B' ≤ B) : Lists B' W v os := ⟨own_base h.own hb, fun p hp => own_base (h.sl p hp) hb, h.far, h.apart⟩
theorem own_num {W : World} {base size n : Nat} {e : TypeId} {v : SV} {xs : List Value} (h : W.ownsRow base e size (.slice v.a v.n v.c) n xs) : v.n = n := by
 rcases h.2 with ⟨h1, h2⟩ | ⟨g, cap, cur, h1, _⟩
 ·simp only [Value.slice.injEq] at h1; omega
 ·simp only [Value.slice.injEq] at h1; exact h1.2.1
/-- one account of a list that was handed out -/
theorem Lists.at {B : Nat} {W : World} {v : SV} {os : List (AccD × SV)} (h : Lists B W v os) {i : Nat} (hi : i < os.length) : ∃ g, v.a = some ⟨g, 0, none⟩ ∧ CellsAt W g (i * 8) (accCells os[i].1 os[i].2) := by
 have ho := h.own
 obtain ⟨g, cap, he, _, _⟩ := ho.form (by omega)
 rw [he] at ho
 exact ⟨g, by simp only [Value.slice.injEq] at he; exact he.1, own_acc ho (List.getElem?_eq_getElem hi)⟩
theorem slot_at {B : Nat} {W : World} {v : SV} {l : List (Nat × Nat)} (ho : W.ownsRow B 57 8 (.slice v.a v.n v.c) l.length (flatS l)) {i : Nat} (hi : i < l.length) : ∃ g, v.a = some ⟨g, 0, none⟩ ∧ CellsAt W g (i * 8) (slotCells l[i]) := by
 obtain ⟨g, cap, he, _, _⟩ := ho.form (by omega)
 rw [he] at ho
 exact ⟨g, by simp only [Value.slice.injEq] at he; exact he.1, own_slot ho (List.getElem?_eq_getElem hi)⟩
/-- behind one Accounts of each world the book bears the list -/
structure AllDone (w W : World) (bk : Nat) (C : Bk) (n : Nat) : Prop where
 ex : ∃ B', Book W bk B' ∧ B'.n = C.n + n + 1 ∧ B'.aa.length = C.aa.length + 4 ∧ B'.ss.length = C.ss.length + 4 * n ∧
   (∀ g, B'.uses bk g → C.uses bk g ∨ w.heap.size ≤ g) ∧ Kept (C.uses bk) w W
set_option maxRecDepth 100000 in
set_option maxHeartbeats 8000000 in
theorem allS (C : Bk) (bk pp pa pb : Nat) (T : List AccD) (w : World) (hC : Book w bk C) (hn0 : C.n < 100000000) (ha0 : C.aa.length < 100000000) (hs0 : C.ss.length < 100000000)
  (hpp : pp < w.heap.size) (hp0 : w.cell? ⟨pp, 0, none⟩ = some (.pointer (some ⟨pa, 0, none⟩))) (hp1 : w.cell? ⟨pp, 1, none⟩ = some (.pointer (some ⟨pb, 0, none⟩)))
  (hT : T.length < 100000) (hTs : ∀ d ∈ T, d.slots.length < 1000000) (hTb : ∀ d ∈ T, d.bal < M) (hTk : ∀ d ∈ T, ∀ q ∈ d.slots, q.1 < M ∧ q.2 < M)
  (h13 : Calls TryQ.prog 13 #[.pointer (some ⟨pa, 0, none⟩)] w fun e w' => ∃ v os, e = .returned (.slice v.a v.n v.c) ∧ Below w.heap.size w w' ∧ Lists w.heap.size w' v os ∧ os.map (·.1) = T)
  (h14 : ∀ W, Below w.heap.size w W → Calls TryQ.prog 14 #[.pointer (some ⟨pb, 0, none⟩)] W fun e w' => ∃ v os, e = .returned (.slice v.a v.n v.c) ∧ Below W.heap.size W w' ∧ Lists W.heap.size w' v os ∧ os.map (·.1) = T) :
  Calls TryQ.prog 5 #[.pointer (some ⟨bk, 0, none⟩), .pointer (some ⟨pp, 0, none⟩)] w fun e w' => e = .returned (.bool true) ∧ AllDone w w' bk C T.length := by
 go_enter TryQ.func5, Tryz.ntmps5
 go_wp2_with fail
 refine h13.mono ?_
 rintro e w1 ⟨v, os, rfl, hb1, hL, ho⟩
 have hp1' := (hb1.cell (p := ⟨pp, 1, none⟩) hpp).trans hp1
 go_wp2_with fail
 refine (h14 w1 hb1).mono ?_
 rintro e w2 ⟨u, ot, rfl, hb2, hM, ho2⟩
 have hN := hL.below hb2
 have hol : os.length = T.length := by rw [← ho]; simp
 have hotl : ot.length = T.length := by rw [← ho2]; simp
 have hvn : v.n = T.length := by rw [own_num hL.own, hol]
 have hun : u.n = T.length := by rw [own_num hM.own, hotl]
 have hvo : ∀ i (hi : i < T.length), (os[i]'(by omega)).1 = T[i] := fun i hi => by simp [← ho]
 have huo : ∀ i (hi : i < T.length), (ot[i]'(by omega)).1 = T[i] := fun i hi => by simp [← ho2]
 have hbw : Below w.heap.size w w2 := hb1.trans (hb2.mono hb1.size)
 have hinit : Below w2.heap.size w2 w2 := Below.refl _ _
 clear hp1'
 have hvn' : Shut (v.n = T.length) := hvn
 have hun' : Shut (u.n = T.length) := hun
 go_wp2_with fail
 go_loopw [7, 8] (fun ok i W => ok = .bool true ∧ ∃ k : Nat, i = .int .i64 k ∧ k ≤ T.length ∧ Below w2.heap.size w2 W) (fun _ i _ => T.length - (Go.RowKit.intOf i).toNat)
 case atStart => exact ⟨by simp, 0, rfl, Nat.zero_le _, hinit⟩
 case round =>
  obtain ⟨rfl, k, rfl, hk, hb⟩ := hrel
  by_cases hlt : k < T.length
  ·have hlt' : (k : Int) < (T.length : Int) := by omega
   have hd1 := hvo k hlt
   have hd2 := huo k hlt
   have hmem := List.getElem_mem hlt
   have hbal := hTb _ hmem
   have hkey := hTk _ hmem
   have hsn := hTs _ hmem
   have hA : ∀ W, Below w2.heap.size w2 W → ∃ g, v.a = some ⟨g, 0, none⟩ ∧ CellsAt W g (k * 8) (accCells (os[k]'(by omega)).1 (os[k]'(by omega)).2) := fun W hW => (hN.below hW).at (by omega)
   have hE : ∀ W, Below w2.heap.size w2 W → ∃ g, u.a = some ⟨g, 0, none⟩ ∧ CellsAt W g (k * 8) (accCells (ot[k]'(by omega)).1 (ot[k]'(by omega)).2) := fun W hW => (hM.below hW).at (by omega)
   have hS1 : ∀ W, Below w2.heap.size w2 W → W.ownsRow w.heap.size 57 8 (.slice (os[k]'(by omega)).2.a (os[k]'(by omega)).2.n (os[k]'(by omega)).2.c) (os[k]'(by omega)).1.slots.length (flatS (os[k]'(by omega)).1.slots) := fun W hW => own_below (hN.sl _ (List.getElem_mem _)) hW
   have hS2 : ∀ W, Below w2.heap.size w2 W → W.ownsRow w1.heap.size 57 8 (.slice (ot[k]'(by omega)).2.a (ot[k]'(by omega)).2.n (ot[k]'(by omega)).2.c) (ot[k]'(by omega)).1.slots.length (flatS (ot[k]'(by omega)).1.slots) := fun W hW => own_below (hM.sl _ (List.getElem_mem _)) hW
   rw [hd1] at hA hS1
   rw [hd2] at hE hS2
   obtain ⟨g, hva, _⟩ := hA w2 hinit
   obtain ⟨g', hua, _⟩ := hE w2 hinit
   replace hA : ∀ W, Below w2.heap.size w2 W → CellsAt W g (k * 8) (accCells T[k] (os[k]'(by omega)).2) := fun W hW => by obtain ⟨g2, h1, h2⟩ := hA W hW; rw [hva] at h1; cases h1; exact h2
   replace hE : ∀ W, Below w2.heap.size w2 W → CellsAt W g' (k * 8) (accCells T[k] (ot[k]'(by omega)).2) := fun W hW => by obtain ⟨g2, h1, h2⟩ := hE W hW; rw [hua] at h1; cases h1; exact h2
   generalize T[k] = d at *
   generalize (os[k]'(by omega)).2 = s1 at *
   generalize (ot[k]'(by omega)).2 = s2 at *
   have hn1 : s1.n = d.slots.length := own_num (hS1 w2 hinit)
   have hn2 : s2.n = d.slots.length := own_num (hS2 w2 hinit)
   clear hd1 hd2
   have hsame := fun W => same d d s1 s2 W hbal hbal
   rw [decide_eq_true ⟨rfl, rfl, rfl, rfl⟩] at hsame
   go_wp2_with fail
   refine wp_region_held_drew (S := fun W => Below w2.heap.size w2 W) (by kernel_rfl) hb.drew (fun hH => ?_)
   refine take_d (i := 0) (d := some 35) (v := .slice (some ⟨g, 0, none⟩) T.length v.c) rfl rfl (by kernel_rfl) (by kernel_rfl) (by kernel_rfl) (fun _ _ _ h => by first | exact h | cases h.1) (Or.inl ⟨by rfl, fun W hW => ?_⟩) hH ?_
   ·clear hW hH
    go_simp
   simp only [Act.put, List.setIfInBounds_toArray, List.set_cons_zero, List.set_cons_succ]
   refine take_d (i := 1) (d := some 36) (v := .int .i64 (k : Int)) rfl rfl (by kernel_rfl) (by kernel_rfl) (by kernel_rfl) (fun _ _ _ h => by first | exact h | cases h.1) (Or.inl ⟨by rfl, fun W hW => ?_⟩) hH ?_
   ·clear hW hH
    go_simp
   simp only [Act.put, List.setIfInBounds_toArray, List.set_cons_zero, List.set_cons_succ]
   refine take_d (i := 2) (d := some 37) (v := .pointer (some ⟨g, k * 8, none⟩)) rfl rfl (by kernel_rfl) (by kernel_rfl) (by kernel_rfl) (fun _ _ _ h => by first | exact h | cases h.1) (Or.inl ⟨by rfl, fun W hW => ?_⟩) hH ?_
   ·clear hW hH
    go_simp
   simp only [Act.put, List.setIfInBounds_toArray, List.set_cons_zero, List.set_cons_succ]
   refine take_d (i := 3) (d := some 38) (v := .agg (accCells d s1).toArray) rfl rfl (by kernel_rfl) (by kernel_rfl) (by kernel_rfl) (fun _ _ _ h => by first | exact h | cases h.1) (Or.inl ⟨by rfl, fun W hW => ?_⟩) hH ?_
   ·have h8 := hA W hW
    have k0 := h8 0 _ rfl; have k1 := h8 1 _ rfl; have k2 := h8 2 _ rfl; have k3 := h8 3 _ rfl; have k4 := h8 4 _ rfl; have k5 := h8 5 _ rfl; have k6 := h8 6 _ rfl; have k7 := h8 7 _ rfl
    rw [Nat.add_zero] at k0
    clear h8 hW hH
    unfold accCells
    go_simp
   simp only [Act.put, List.setIfInBounds_toArray, List.set_cons_zero, List.set_cons_succ]
   refine take_d (i := 4) (d := some 39) (v := .slice (some ⟨g', 0, none⟩) T.length u.c) rfl rfl (by kernel_rfl) (by kernel_rfl) (by kernel_rfl) (fun _ _ _ h => by first | exact h | cases h.1) (Or.inl ⟨by rfl, fun W hW => ?_⟩) hH ?_
   ·clear hW hH
    go_simp
   simp only [Act.put, List.setIfInBounds_toArray, List.set_cons_zero, List.set_cons_succ]
   refine take_d (i := 5) (d := some 40) (v := .int .i64 (k : Int)) rfl rfl (by kernel_rfl) (by kernel_rfl) (by kernel_rfl) (fun _ _ _ h => by first | exact h | cases h.1) (Or.inl ⟨by rfl, fun W hW => ?_⟩) hH ?_
   ·clear hW hH
    go_simp
   simp only [Act.put, List.setIfInBounds_toArray, List.set_cons_zero, List.set_cons_succ]
   refine take_d (i := 6) (d := some 41) (v := .pointer (some ⟨g', k * 8, none⟩)) rfl rfl (by kernel_rfl) (by kernel_rfl) (by kernel_rfl) (fun _ _ _ h => by first | exact h | cases h.1) (Or.inl ⟨by rfl, fun W hW => ?_⟩) hH ?_
   ·clear hW hH
    go_simp
   simp only [Act.put, List.setIfInBounds_toArray, List.set_cons_zero, List.set_cons_succ]
   refine take_d (i := 7) (d := some 42) (v := .agg (accCells d s2).toArray) rfl rfl (by kernel_rfl) (by kernel_rfl) (by kernel_rfl) (fun _ _ _ h => by first | exact h | cases h.1) (Or.inl ⟨by rfl, fun W hW => ?_⟩) hH ?_
   ·have h8 := hE W hW
    have k0 := h8 0 _ rfl; have k1 := h8 1 _ rfl; have k2 := h8 2 _ rfl; have k3 := h8 3 _ rfl; have k4 := h8 4 _ rfl; have k5 := h8 5 _ rfl; have k6 := h8 6 _ rfl; have k7 := h8 7 _ rfl
    rw [Nat.add_zero] at k0
    clear h8 hW hH
    unfold accCells
    go_simp
   simp only [Act.put, List.setIfInBounds_toArray, List.set_cons_zero, List.set_cons_succ]
   refine wpAnyH_ready (rs := [8]) (by kernel_rfl) (by simp) ?_
   refine AllReadyH.cons rfl (fun K hK => ?_) AllReadyH.nil
   go_simp
   refine (hsame _).mono ?_
   rintro e wC ⟨rfl, hbn⟩
   go_wp2_with fail
   refine hK.out _ _ (hH.trans (hbn.mono hH.size)) (fun hH => ?_)
   clear hK K
   refine take_d (i := 9) (d := some 9) (v := .bool true) rfl rfl (by kernel_rfl) (by kernel_rfl) (by kernel_rfl) (fun _ _ _ h => by first | exact h | cases h.1) (Or.inl ⟨by rfl, fun W hW => ?_⟩) hH ?_
   ·clear hW hH
    go_simp
   simp only [Act.put, List.setIfInBounds_toArray, List.set_cons_zero, List.set_cons_succ]
   refine wpAnyH_done (by kernel_rfl) ?_ _
   clear hbn
   generalize wC = W3 at hH ⊢
   go_wp2_with fail
   refine wp_region_held_drew (S := fun W => Below w2.heap.size w2 W) (by kernel_rfl) hH.drew (fun hH => ?_)
   refine take_d (i := 0) (d := some 44) (v := .bool true) rfl rfl (by kernel_rfl) (by kernel_rfl) (by kernel_rfl) (fun _ _ _ h => by first | exact h | cases h.1) (Or.inl ⟨by rfl, fun W hW => ?_⟩) hH ?_
   ·clear hW hH
    go_simp
   simp only [Act.put, List.setIfInBounds_toArray, List.set_cons_zero, List.set_cons_succ]
   refine take_d (i := 1) (d := some 45) (v := .bool true) rfl rfl (by kernel_rfl) (by kernel_rfl) (by kernel_rfl) (fun _ _ _ h => by first | exact h | cases h.1) (Or.inl ⟨by rfl, fun W hW => ?_⟩) hH ?_
   ·clear hW hH
    go_simp
   simp only [Act.put, List.setIfInBounds_toArray, List.set_cons_zero, List.set_cons_succ]
   refine take_d (i := 2) (d := some 46) (v := .slice (some ⟨g, 0, none⟩) T.length v.c) rfl rfl (by kernel_rfl) (by kernel_rfl) (by kernel_rfl) (fun _ _ _ h => by first | exact h | cases h.1) (Or.inl ⟨by rfl, fun W hW => ?_⟩) hH ?_
   ·clear hW hH
    go_simp
   simp only [Act.put, List.setIfInBounds_toArray, List.set_cons_zero, List.set_cons_succ]
   refine take_d (i := 3) (d := some 47) (v := .int .i64 (k : Int)) rfl rfl (by kernel_rfl) (by kernel_rfl) (by kernel_rfl) (fun _ _ _ h => by first | exact h | cases h.1) (Or.inl ⟨by rfl, fun W hW => ?_⟩) hH ?_
   ·clear hW hH
    go_simp
   simp only [Act.put, List.setIfInBounds_toArray, List.set_cons_zero, List.set_cons_succ]
   refine take_d (i := 4) (d := some 48) (v := .pointer (some ⟨g, k * 8, none⟩)) rfl rfl (by kernel_rfl) (by kernel_rfl) (by kernel_rfl) (fun _ _ _ h => by first | exact h | cases h.1) (Or.inl ⟨by rfl, fun W hW => ?_⟩) hH ?_
   ·clear hW hH
    go_simp
   simp only [Act.put, List.setIfInBounds_toArray, List.set_cons_zero, List.set_cons_succ]
   refine take_d (i := 5) (d := some 49) (v := .pointer (some ⟨g, k * 8 + 7, none⟩)) rfl rfl (by kernel_rfl) (by kernel_rfl) (by kernel_rfl) (fun _ _ _ h => by first | exact h | cases h.1) (Or.inl ⟨by rfl, fun W hW => ?_⟩) hH ?_
   ·clear hW hH
    go_simp
   simp only [Act.put, List.setIfInBounds_toArray, List.set_cons_zero, List.set_cons_succ]
   refine take_d (i := 6) (d := some 50) (v := .slice s1.a d.slots.length s1.c) rfl rfl (by kernel_rfl) (by kernel_rfl) (by kernel_rfl) (fun _ _ _ h => by first | exact h | cases h.1) (Or.inl ⟨by rfl, fun W hW => ?_⟩) hH ?_
   ·have k7 := hA W hW 7 _ rfl
    clear hW hH
    go_simp
   simp only [Act.put, List.setIfInBounds_toArray, List.set_cons_zero, List.set_cons_succ]
   refine take_d (i := 7) (d := some 51) (v := .int .i64 (d.slots.length : Int)) rfl rfl (by kernel_rfl) (by kernel_rfl) (by kernel_rfl) (fun _ _ _ h => by first | exact h | cases h.1) (Or.inl ⟨by rfl, fun W hW => ?_⟩) hH ?_
   ·clear hW hH
    go_simp
   simp only [Act.put, List.setIfInBounds_toArray, List.set_cons_zero, List.set_cons_succ]
   refine take_d (i := 8) (d := some 52) (v := .slice (some ⟨g', 0, none⟩) T.length u.c) rfl rfl (by kernel_rfl) (by kernel_rfl) (by kernel_rfl) (fun _ _ _ h => by first | exact h | cases h.1) (Or.inl ⟨by rfl, fun W hW => ?_⟩) hH ?_
   ·clear hW hH
    go_simp
   simp only [Act.put, List.setIfInBounds_toArray, List.set_cons_zero, List.set_cons_succ]
   refine take_d (i := 9) (d := some 53) (v := .int .i64 (k : Int)) rfl rfl (by kernel_rfl) (by kernel_rfl) (by kernel_rfl) (fun _ _ _ h => by first | exact h | cases h.1) (Or.inl ⟨by rfl, fun W hW => ?_⟩) hH ?_
   ·clear hW hH
    go_simp
   simp only [Act.put, List.setIfInBounds_toArray, List.set_cons_zero, List.set_cons_succ]
   refine take_d (i := 10) (d := some 54) (v := .pointer (some ⟨g', k * 8, none⟩)) rfl rfl (by kernel_rfl) (by kernel_rfl) (by kernel_rfl) (fun _ _ _ h => by first | exact h | cases h.1) (Or.inl ⟨by rfl, fun W hW => ?_⟩) hH ?_
   ·clear hW hH
    go_simp
   simp only [Act.put, List.setIfInBounds_toArray, List.set_cons_zero, List.set_cons_succ]
   refine take_d (i := 11) (d := some 55) (v := .pointer (some ⟨g', k * 8 + 7, none⟩)) rfl rfl (by kernel_rfl) (by kernel_rfl) (by kernel_rfl) (fun _ _ _ h => by first | exact h | cases h.1) (Or.inl ⟨by rfl, fun W hW => ?_⟩) hH ?_
   ·clear hW hH
    go_simp
   simp only [Act.put, List.setIfInBounds_toArray, List.set_cons_zero, List.set_cons_succ]
   refine take_d (i := 12) (d := some 56) (v := .slice s2.a d.slots.length s2.c) rfl rfl (by kernel_rfl) (by kernel_rfl) (by kernel_rfl) (fun _ _ _ h => by first | exact h | cases h.1) (Or.inl ⟨by rfl, fun W hW => ?_⟩) hH ?_
   ·have k7 := hE W hW 7 _ rfl
    clear hW hH
    go_simp
   simp only [Act.put, List.setIfInBounds_toArray, List.set_cons_zero, List.set_cons_succ]
   refine take_d (i := 13) (d := some 57) (v := .int .i64 (d.slots.length : Int)) rfl rfl (by kernel_rfl) (by kernel_rfl) (by kernel_rfl) (fun _ _ _ h => by first | exact h | cases h.1) (Or.inl ⟨by rfl, fun W hW => ?_⟩) hH ?_
   ·clear hW hH
    go_simp
   simp only [Act.put, List.setIfInBounds_toArray, List.set_cons_zero, List.set_cons_succ]
   refine take_d (i := 14) (d := some 58) (v := .bool true) rfl rfl (by kernel_rfl) (by kernel_rfl) (by kernel_rfl) (fun _ _ _ h => by first | exact h | cases h.1) (Or.inl ⟨by rfl, fun W hW => ?_⟩) hH ?_
   ·clear hW hH
    go_simp
   simp only [Act.put, List.setIfInBounds_toArray, List.set_cons_zero, List.set_cons_succ]
   refine take_d (i := 15) (d := some 59) (v := .bool true) rfl rfl (by kernel_rfl) (by kernel_rfl) (by kernel_rfl) (fun _ _ _ h => by first | exact h | cases h.1) (Or.inl ⟨by rfl, fun W hW => ?_⟩) hH ?_
   ·clear hW hH
    go_simp
   simp only [Act.put, List.setIfInBounds_toArray, List.set_cons_zero, List.set_cons_succ]
   refine take_d (i := 16) (d := some 7) (v := .bool true) rfl rfl (by kernel_rfl) (by kernel_rfl) (by kernel_rfl) (fun _ _ _ h => by first | exact h | cases h.1) (Or.inl ⟨by rfl, fun W hW => ?_⟩) hH ?_
   ·clear hW hH
    go_simp
   simp only [Act.put, List.setIfInBounds_toArray, List.set_cons_zero, List.set_cons_succ]
   refine wpAnyH_done (by kernel_rfl) ?_ _
   generalize W3.drew = W4 at hH ⊢
   go_wp2_with fail
   go_loopw [7, 10] (fun ok i W => ok = .bool true ∧ ∃ j : Nat, i = .int .i64 j ∧ j ≤ d.slots.length ∧ Below w2.heap.size w2 W) (fun _ i _ => d.slots.length - (Go.RowKit.intOf i).toNat)
   case atStart => exact ⟨rfl, 0, rfl, Nat.zero_le _, hH⟩
   case round =>
    clear hH hb
    obtain ⟨rfl, j, rfl, hj, hb⟩ := hrel
    have c7 := hA wr hb 7 _ rfl
    by_cases hjl : j < d.slots.length
    ·have hjl' : (j : Int) < (d.slots.length : Int) := by omega
     obtain ⟨q1, hq1, _⟩ := slot_at (hS1 wr hb) hjl
     obtain ⟨q2, hq2, _⟩ := slot_at (hS2 wr hb) hjl
     have hC1 : ∀ W, Below w2.heap.size w2 W → CellsAt W q1 (j * 8) (slotCells d.slots[j]) := fun W hW => by
      obtain ⟨g2, h1, h2⟩ := slot_at (hS1 W hW) hjl
      rw [hq1] at h1; cases h1; exact h2
     have hC2 : ∀ W, Below w2.heap.size w2 W → CellsAt W q2 (j * 8) (slotCells d.slots[j]) := fun W hW => by
      obtain ⟨g2, h1, h2⟩ := slot_at (hS2 W hW) hjl
      rw [hq2] at h1; cases h1; exact h2
     have hkq := hkey _ (List.getElem_mem hjl)
     have heq := fun W => run_eq57 d.slots[j] d.slots[j] hkq hkq W
     simp only [decide_true, Bool.and_self] at heq
     go_wp2_with fail
     refine wp_region_held_drew (S := fun W => Below w2.heap.size w2 W) (by kernel_rfl) hb.drew (fun hH => ?_)
     refine take_d (i := 0) (d := some 73) (v := .slice (some ⟨g, 0, none⟩) T.length v.c) rfl rfl (by kernel_rfl) (by kernel_rfl) (by kernel_rfl) (fun _ _ _ h => by first | exact h | cases h.1) (Or.inl ⟨by rfl, fun W hW => ?_⟩) hH ?_
     ·clear hW hH
      go_simp
     simp only [Act.put, List.setIfInBounds_toArray, List.set_cons_zero, List.set_cons_succ]
     refine take_d (i := 1) (d := some 74) (v := .int .i64 (k : Int)) rfl rfl (by kernel_rfl) (by kernel_rfl) (by kernel_rfl) (fun _ _ _ h => by first | exact h | cases h.1) (Or.inl ⟨by rfl, fun W hW => ?_⟩) hH ?_
     ·clear hW hH
      go_simp
     simp only [Act.put, List.setIfInBounds_toArray, List.set_cons_zero, List.set_cons_succ]
     refine take_d (i := 2) (d := some 75) (v := .pointer (some ⟨g, k * 8, none⟩)) rfl rfl (by kernel_rfl) (by kernel_rfl) (by kernel_rfl) (fun _ _ _ h => by first | exact h | cases h.1) (Or.inl ⟨by rfl, fun W hW => ?_⟩) hH ?_
     ·clear hW hH
      go_simp
     simp only [Act.put, List.setIfInBounds_toArray, List.set_cons_zero, List.set_cons_succ]
     refine take_d (i := 3) (d := some 76) (v := .pointer (some ⟨g, k * 8 + 7, none⟩)) rfl rfl (by kernel_rfl) (by kernel_rfl) (by kernel_rfl) (fun _ _ _ h => by first | exact h | cases h.1) (Or.inl ⟨by rfl, fun W hW => ?_⟩) hH ?_
     ·clear hW hH
      go_simp
     simp only [Act.put, List.setIfInBounds_toArray, List.set_cons_zero, List.set_cons_succ]
     refine take_d (i := 4) (d := some 77) (v := .slice (some ⟨q1, 0, none⟩) d.slots.length s1.c) rfl rfl (by kernel_rfl) (by kernel_rfl) (by kernel_rfl) (fun _ _ _ h => by first | exact h | cases h.1) (Or.inl ⟨by rfl, fun W hW => ?_⟩) hH ?_
     ·have k7 := hA W hW 7 _ rfl
      clear hW hH
      go_simp
     simp only [Act.put, List.setIfInBounds_toArray, List.set_cons_zero, List.set_cons_succ]
     refine take_d (i := 5) (d := some 78) (v := .int .i64 (j : Int)) rfl rfl (by kernel_rfl) (by kernel_rfl) (by kernel_rfl) (fun _ _ _ h => by first | exact h | cases h.1) (Or.inl ⟨by rfl, fun W hW => ?_⟩) hH ?_
     ·clear hW hH
      go_simp
     simp only [Act.put, List.setIfInBounds_toArray, List.set_cons_zero, List.set_cons_succ]
     refine take_d (i := 6) (d := some 79) (v := .pointer (some ⟨q1, j * 8, none⟩)) rfl rfl (by kernel_rfl) (by kernel_rfl) (by kernel_rfl) (fun _ _ _ h => by first | exact h | cases h.1) (Or.inl ⟨by rfl, fun W hW => ?_⟩) hH ?_
     ·clear hW hH
      go_simp
     simp only [Act.put, List.setIfInBounds_toArray, List.set_cons_zero, List.set_cons_succ]
     refine take_d (i := 7) (d := some 80) (v := .agg (slotCells d.slots[j]).toArray) rfl rfl (by kernel_rfl) (by kernel_rfl) (by kernel_rfl) (fun _ _ _ h => by first | exact h | cases h.1) (Or.inl ⟨by rfl, fun W hW => ?_⟩) hH ?_
     ·have h8 := hC1 W hW
      have k0 := h8 0 _ rfl; have k1 := h8 1 _ rfl; have k2 := h8 2 _ rfl; have k3 := h8 3 _ rfl; have k4 := h8 4 _ rfl; have k5 := h8 5 _ rfl; have k6 := h8 6 _ rfl; have k7 := h8 7 _ rfl
      rw [Nat.add_zero] at k0
      clear h8 hW hH
      unfold slotCells
      go_simp
     simp only [Act.put, List.setIfInBounds_toArray, List.set_cons_zero, List.set_cons_succ]
     refine take_d (i := 8) (d := some 81) (v := .slice (some ⟨g', 0, none⟩) T.length u.c) rfl rfl (by kernel_rfl) (by kernel_rfl) (by kernel_rfl) (fun _ _ _ h => by first | exact h | cases h.1) (Or.inl ⟨by rfl, fun W hW => ?_⟩) hH ?_
     ·clear hW hH
      go_simp
     simp only [Act.put, List.setIfInBounds_toArray, List.set_cons_zero, List.set_cons_succ]
     refine take_d (i := 9) (d := some 82) (v := .int .i64 (k : Int)) rfl rfl (by kernel_rfl) (by kernel_rfl) (by kernel_rfl) (fun _ _ _ h => by first | exact h | cases h.1) (Or.inl ⟨by rfl, fun W hW => ?_⟩) hH ?_
     ·clear hW hH
      go_simp
     simp only [Act.put, List.setIfInBounds_toArray, List.set_cons_zero, List.set_cons_succ]
     refine take_d (i := 10) (d := some 83) (v := .pointer (some ⟨g', k * 8, none⟩)) rfl rfl (by kernel_rfl) (by kernel_rfl) (by kernel_rfl) (fun _ _ _ h => by first | exact h | cases h.1) (Or.inl ⟨by rfl, fun W hW => ?_⟩) hH ?_
     ·clear hW hH
      go_simp
     simp only [Act.put, List.setIfInBounds_toArray, List.set_cons_zero, List.set_cons_succ]
     refine take_d (i := 11) (d := some 84) (v := .pointer (some ⟨g', k * 8 + 7, none⟩)) rfl rfl (by kernel_rfl) (by kernel_rfl) (by kernel_rfl) (fun _ _ _ h => by first | exact h | cases h.1) (Or.inl ⟨by rfl, fun W hW => ?_⟩) hH ?_
     ·clear hW hH
      go_simp
     simp only [Act.put, List.setIfInBounds_toArray, List.set_cons_zero, List.set_cons_succ]
     refine take_d (i := 12) (d := some 85) (v := .slice (some ⟨q2, 0, none⟩) d.slots.length s2.c) rfl rfl (by kernel_rfl) (by kernel_rfl) (by kernel_rfl) (fun _ _ _ h => by first | exact h | cases h.1) (Or.inl ⟨by rfl, fun W hW => ?_⟩) hH ?_
     ·have k7 := hE W hW 7 _ rfl
      clear hW hH
      go_simp
     simp only [Act.put, List.setIfInBounds_toArray, List.set_cons_zero, List.set_cons_succ]
     refine take_d (i := 13) (d := some 86) (v := .int .i64 (j : Int)) rfl rfl (by kernel_rfl) (by kernel_rfl) (by kernel_rfl) (fun _ _ _ h => by first | exact h | cases h.1) (Or.inl ⟨by rfl, fun W hW => ?_⟩) hH ?_
     ·clear hW hH
      go_simp
     simp only [Act.put, List.setIfInBounds_toArray, List.set_cons_zero, List.set_cons_succ]
     refine take_d (i := 14) (d := some 87) (v := .pointer (some ⟨q2, j * 8, none⟩)) rfl rfl (by kernel_rfl) (by kernel_rfl) (by kernel_rfl) (fun _ _ _ h => by first | exact h | cases h.1) (Or.inl ⟨by rfl, fun W hW => ?_⟩) hH ?_
     ·clear hW hH
      go_simp
     simp only [Act.put, List.setIfInBounds_toArray, List.set_cons_zero, List.set_cons_succ]
     refine take_d (i := 15) (d := some 88) (v := .agg (slotCells d.slots[j]).toArray) rfl rfl (by kernel_rfl) (by kernel_rfl) (by kernel_rfl) (fun _ _ _ h => by first | exact h | cases h.1) (Or.inl ⟨by rfl, fun W hW => ?_⟩) hH ?_
     ·have h8 := hC2 W hW
      have k0 := h8 0 _ rfl; have k1 := h8 1 _ rfl; have k2 := h8 2 _ rfl; have k3 := h8 3 _ rfl; have k4 := h8 4 _ rfl; have k5 := h8 5 _ rfl; have k6 := h8 6 _ rfl; have k7 := h8 7 _ rfl
      rw [Nat.add_zero] at k0
      clear h8 hW hH
      unfold slotCells
      go_simp
     simp only [Act.put, List.setIfInBounds_toArray, List.set_cons_zero, List.set_cons_succ]
     refine take_d (i := 16) (d := some 89) (v := .bool true) rfl rfl (by kernel_rfl) (by kernel_rfl) (by kernel_rfl) (fun _ _ _ h => by first | exact h | cases h.1) (Or.inl ⟨by rfl, fun W hW => ?_⟩) hH ?_
     ·clear hW hH
      go_simp
     simp only [Act.put, List.setIfInBounds_toArray, List.set_cons_zero, List.set_cons_succ]
     refine take_d (i := 17) (d := some 7) (v := .bool true) rfl rfl (by kernel_rfl) (by kernel_rfl) (by kernel_rfl) (fun _ _ _ h => by first | exact h | cases h.1) (Or.inl ⟨by rfl, fun W hW => ?_⟩) hH ?_
     ·clear hW hH
      go_simp
     simp only [Act.put, List.setIfInBounds_toArray, List.set_cons_zero, List.set_cons_succ]
     refine wpAnyH_done (by kernel_rfl) ?_ _
     go_wp2_with fail
     refine ⟨⟨rfl, j + 1, by go_num, by omega, hH⟩, ?_⟩
     simp [Go.RowKit.intOf]; omega
    ·have hj' : j = d.slots.length := by omega
     subst hj'
     go_wp2_with fail
     rw [← hva, ← hua]
     go_roundw
     case rel => exact ⟨rfl, k + 1, by go_num, by omega, hb⟩
     case measure => simp [Go.RowKit.intOf]; omega
  ·have hk' : k = T.length := by omega
   subst hk'
   have hbz := hbw.trans (hb.mono hbw.size)
   have hCr := hC.below hbz
   have hLr := (hN.below hb).base (Nat.zero_le w.heap.size)
   have hmemo : ∀ p ∈ os, p.1 ∈ T := fun p hp => by rw [← ho]; exact List.mem_map_of_mem hp
   have hta := takeAccounts C bk v os wr hCr hn0 ha0 hs0 hLr (by omega) (fun p hp => hTs _ (hmemo p hp)) (fun p hp g e1 e2 => by have := own_ge hL.own g e1; have := ((hC.ra p hp).lt g e2).1; omega) (fun q hq p hp g e1 e2 => by have := own_ge (hL.sl q hq) g e1; have := ((hC.rs p hp).lt g e2).1; omega)
   rw [hvn] at hta
   go_wp2_with fail
   refine hta.mono ?_
   rintro e w3 ⟨rfl, hTk3⟩
   have hdone : AllDone w w3 bk C T.length := by
    obtain ⟨B', h1, h2, h3, h4, h5, h6, h7, h8⟩ := hTk3.ex
    refine ⟨B', h1, by omega, h5, by omega, fun g hg => ?_, ?_⟩
    ·rcases h7 g hg with h | h | ⟨q, hq, h⟩ | h
     ·exact .inl h
     ·exact .inr (own_ge hL.own g h)
     ·exact .inr (own_ge (hL.sl q hq) g h)
     ·exact .inr (Nat.le_trans hbz.size h)
    ·refine (kept_below hbz).trans h8 (fun g h1 h2 => by omega) (fun g h1 h2 => ?_)
     rcases h2 with h | h | ⟨q, hq, h⟩
     ·exact h
     ·have := own_ge hL.own g h; omega
     ·have := own_ge (hL.sl q hq) g h; omega
   go_wp2_with fail
   simp [bodyPost, results, Tryz.results5, go_sem]
   exact hdone
end Go.Mark
