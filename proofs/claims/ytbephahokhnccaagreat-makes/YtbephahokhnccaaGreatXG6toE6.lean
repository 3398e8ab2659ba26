/-
 The ledger tells an account's slots (44).
-/
import Derived.Test.YtbephahokhnccaaGreatXG4toF14
import Derived.Test.YtbephahokhnccaaGreatF21
import Derived.Laws.MakeOwn
import Derived.Shelf.SlIterI.Nil
import Derived.Shelf.SortM.Plain
import Derived.Shelf.SortM.SortNone
import Derived.Test.YtbephahokhnccaaGreatXE3toE5
namespace Go.Mark
open Go.RowKit Go.Proofs
/-- a map of words as a list of slots -/
def slotL (ss : List (Nat × Nat)) : List (Nat × Value) := ss.map fun p => (p.1, wd p.2)
theorem slotL_keys (ss : List (Nat × Nat)) : (slotL ss).map (·.1) = ss.map (·.1) := by unfold slotL; rw [List.map_map]; rfl
theorem find_slot : ∀ (ss : List (Nat × Nat)) (i : Nat) (p : Nat × Nat), (ss.map (·.1)).Nodup → p ∈ ss → ∃ j, findL p.1 (slotL ss) i = some (j, wd p.2)
 | [], _, _, _, h => by cases h
 | q :: ss, i, p, hn, h => by
  have hn' := List.nodup_cons.1 hn
  show ∃ j, findL p.1 ((q.1, wd q.2) :: slotL ss) i = _
  unfold findL
  by_cases hk : p.1 = q.1
  ·rcases List.mem_cons.1 h with rfl | h
   ·exact ⟨i, by rw [if_pos rfl]⟩
   ·exact absurd (by have h2 := List.mem_map_of_mem (f := fun x : Nat × Nat => x.1) h; rw [hk] at h2; exact h2) hn'.1
  ·rcases List.mem_cons.1 h with rfl | h
   ·exact absurd rfl hk
   ·rw [if_neg hk]
    exact find_slot ss (i + 1) p hn'.2 h
theorem zero28 : (zeroValue 28).run TryQ.prog = fun w => .ok (wd 0) w := by
 funext w
 have e : wd 0 = .agg #[.int .u64 0, .int .u64 0, .int .u64 0, .int .u64 0] := by simp [wd, lim]
 rw [e, q_run_zeroValue]
 exact Tryz.zeroValue28 w
set_option maxRecDepth 100000 in
set_option maxHeartbeats 4000000 in
theorem tellSlots (ss : List (Nat × Nat)) (pa ms : Nat) (w : World) (hpa : w.cell? ⟨pa, 7, none⟩ = some (.map (some ms))) (hpl : pa < w.heap.size) (hM : MapB wd w ms (slotL ss)) (hk : ∀ p ∈ ss, p.1 < M ∧ p.2 < M) (hnd : (ss.map (·.1)).Nodup) (hnum : ss.length < 1000000) :
  Calls TryQ.prog 44 #[.pointer (some ⟨pa, 0, none⟩)] w fun e w' => ∃ v : SV, e = .returned (.slice v.a v.n v.c) ∧ w'.ownsRow w.heap.size 57 8 (.slice v.a v.n v.c) ss.length (flatS (srt (fun q => (q.1 : Int)) ss)) ∧ Below w.heap.size w w' := by
 obtain ⟨i57, z57, hi57, hz57, hs57, hb57, hzs57⟩ := info57
 have hlen := run_lenMap u91 hM.mapL
 have hsl : (slotL ss).length = ss.length := by simp [slotL]
 rw [hsl] at hlen
 obtain ⟨w1, hmk, hown1, hg1⟩ := run_make_own (P := TryQ.prog) w w.heap.size 29 57 i57 z57 8 ((q_underlying 29).trans Tryz.underlying29) hi57 hz57 hs57 .i64 .i64 ss.length (by rw [hb57]; omega) (by simp [maxLen]; omega) (Nat.le_refl _)
 have hb1 : Below w.heap.size w w1 := ⟨hg1.os, hg1.tape, hg1.output, hg1.size, fun k hk => hg1.block k hk (by simp)⟩
 have hpa1 := (hb1.cell (p := ⟨pa, 7, none⟩) hpl).trans hpa
 have hgl1 : w.heap.size < w1.heap.size := own_lt hown1 _ rfl
 have cK := fun mb W => (callsIn_wide (n := 5)).1 (keys65 5 mb W)
 go_enter TryQ.func44, Tryz.ntmps44
 go_wp2_with fail
 refine (cK (some ms) w1).mono ?_
 rintro e w2 ⟨rfl, hw2⟩
 have hb2 : Below w1.heap.size w1 w2 := by rw [hw2]; exact (Below.refl _ _).alloc (Nat.le_refl _) _
 have hBm : w2.cell? ⟨w1.heap.size, 0, none⟩ = some (.map (some ms)) := by rw [hw2, World.cell?_alloc_new]; rfl
 have hBl : w1.heap.size < w2.heap.size := by rw [hw2]; simp
 have hM2 := (hM.below hb1).below hb2
 have hso := sorted64 w1.heap.size ms (slotL ss) (fun p hp => by obtain ⟨q, hq, rfl⟩ := List.mem_map.1 hp; exact (hk q hq).1) (by rw [hsl]; omega) (by rw [slotL_keys]; exact hnd) w2 hBl hBm hM2
 have hown2 := own_below hown1 hb2
 clear hw2
 go_wp2_with fail
 refine hso.mono ?_
 rintro e w3 ⟨a, cap, ks, rfl, hS⟩
 have hperm := hS.perm
 rw [slotL_keys] at hperm
 obtain ⟨ps, hps⟩ : ∃ ps, srt (fun q : Nat × Nat => (q.1 : Int)) ss = ps := ⟨_, rfl⟩
 have hpp : ps.Perm ss := by rw [← hps]; exact srt_perm _ _
 have hksp : ks = ps.map (·.1) := by
  refine up_unique (f := fun k : Nat => (k : Int)) (hperm.trans (hpp.map _).symm) hS.up ?_
  refine List.pairwise_map.2 ?_
  rw [← hps]
  refine srt_up (fun q : Nat × Nat => (q.1 : Int)) ss ?_
  have : ss.map (fun q => (q.1 : Int)) = (ss.map (·.1)).map (fun k : Nat => (k : Int)) := by rw [List.map_map]; rfl
  rw [this]
  exact List.pairwise_map.2 (hnd.imp fun h e => h (by exact_mod_cast e))
 have hpl2 : ps.length = ss.length := hpp.length_eq
 have hkl : Shut (ks.length = ss.length) := by rw [hksp]; simpa [Shut] using hpl2
 have hb3 : Below w.heap.size w w3 := (hb1.trans (hb2.mono hb1.size)).trans (hS.below.mono (by have := hb1.size; have := hb2.size; omega))
 have hown3 := own_below hown2 hS.below
 rw [hkl.out]
 rcases hS.cells with he | ⟨g, rfl, hg2, hg3, hcs⟩
 ·have hss : ss = [] := by have := hkl.out; rw [he] at this; exact List.eq_nil_of_length_eq_zero this.symm
  have hp0 : ps = [] := List.eq_nil_of_length_eq_zero (by rw [hpl2, hss]; rfl)
  have hl0 : ss.length = 0 := by rw [hss]; rfl
  rw [hl0] at hown3 ⊢
  go_wp2_with fail
  go_loopw [3, 19] (fun lv i W => lv = .slice (some ⟨w.heap.size, 0, none⟩) 0 0 ∧ i = .int .i64 0 ∧ W = w3) (fun _ _ _ => 0)
  case atStart => exact ⟨rfl, rfl, rfl⟩
  case round =>
   obtain ⟨rfl, rfl, rfl⟩ := hrel
   go_wp2_with fail
   simp [bodyPost, results, Tryz.results44, go_sem]
   refine ⟨⟨some ⟨w.heap.size, 0, none⟩, 0, 0⟩, ⟨rfl, rfl, rfl⟩, ?_, hb3⟩
   rw [hps, hp0, hl0]
   exact hown3
 ·go_wp2_with fail
  go_loopw [3, 19] (fun lv i W => ∃ (k : Nat) (vL : SV), lv = .slice vL.a vL.n vL.c ∧ i = .int .i64 k ∧ k ≤ ss.length ∧ Below w.heap.size w W ∧ (∀ i kk, ks[i]? = some kk → CellsAt W g (i * 4) (wc kk)) ∧ W.ownsRow w.heap.size 57 8 (.slice vL.a vL.n vL.c) k (flatS (ps.take k)) ∧ vL.blk ≠ some g ∧ g < W.heap.size) (fun _ i _ => ss.length - (Go.RowKit.intOf i).toNat)
  case atStart => exact ⟨0, ⟨some ⟨w.heap.size, 0, none⟩, 0, ss.length⟩, rfl, rfl, Nat.zero_le _, hb3, hcs, hown3, (by intro e; have := Option.some.inj e; show False; have h2 : w.heap.size = g := this; omega), hg3⟩
  case round =>
   obtain ⟨k, vL, rfl, rfl, hkk, hb, hcW, hoW, hne, hgW⟩ := hrel
   by_cases hlt : k < ss.length
   ·have hlt' : (k : Int) < (ss.length : Int) := by omega
    have hlp : k < ps.length := by omega
    have hkk2 : ks[k]? = some ps[k].1 := by rw [hksp]; simp [hlp]
    have hc4 := hcW k _ hkk2
    have hmem : ps[k] ∈ ss := hpp.mem_iff.1 (List.getElem_mem hlp)
    obtain ⟨hkM, hvM⟩ := hk _ hmem
    obtain ⟨jf, hfind⟩ := find_slot ss 0 ps[k] hnd hmem
    have htake : ps.take (k + 1) = ps.take k ++ [ps[k]] := (List.take_append_getElem hlp).symm
    generalize hpk : ps[k] = p at *
    have c0 := hc4 0 _ rfl
    have c1 := hc4 1 _ rfl
    have c2 := hc4 2 _ rfl
    have c3 := hc4 3 _ rfl
    rw [Nat.add_zero] at c0
    have hlk : ∀ W, MapB wd W ms (slotL ss) → (Instr.lookup 91 (.map (some ms)) (wd p.1) false).run TryQ.prog W = .ok (wd p.2) W := fun W hW => by
     have := run_lookup wordKeys u91 (z := wd 0) hW.mapL hkM (fun q hq => by obtain ⟨r, hr, rfl⟩ := List.mem_map.1 hq; exact (hk r hr).1) (fun w => by rw [zero28])
     rw [hfind] at this
     exact this
    have hbx : Below wr.heap.size wr (wr.alloc (.cells (wc p.1).toArray 28)) := (Below.refl _ _).alloc (Nat.le_refl _) _
    have hx := cells_new wr (wc p.1) 28
    have hxl : wr.heap.size < (wr.alloc (.cells (wc p.1).toArray 28)).heap.size := by simp
    have hbW := hb.trans (hbx.mono hb.size)
    have hcW2 : ∀ i kk, ks[i]? = some kk → CellsAt (wr.alloc (.cells (wc p.1).toArray 28)) g (i * 4) (wc kk) := fun i kk h => (hcW i kk h).below hbx
    have hoW2 := own_below hoW hbx
    have hlo := own_lt hoW
    go_wp2_with fail
    change Code.wp _ _ _ _ (wr.alloc (.cells (wc p.1).toArray 28))
    generalize wr.alloc (.cells (wc p.1).toArray 28) = W1 at hx hxl hbW hcW2 hoW2 ⊢
    generalize hxb : wr.heap.size = xb at hx hxl hlo hgW ⊢
    refine wp_region_held_drew (S := fun W => Below w.heap.size w W ∧ CellsAt W xb 0 (wc p.1)) (by kernel_rfl) ⟨hbW.drew, hx.below (Below.refl _ _).drew⟩ (fun hH => ?_)
    refine take_d (i := 0) (d := some 23) (v := .slice vL.a vL.n vL.c) rfl rfl (by kernel_rfl) (by kernel_rfl) (by kernel_rfl) (fun _ _ _ h => by first | exact h | cases h.1) (Or.inl ⟨by rfl, fun W hW => ?_⟩) hH ?_
    ·clear hW hH
     go_simp
    simp only [Act.put, List.setIfInBounds_toArray, List.set_cons_zero, List.set_cons_succ]
    refine take_d (i := 1) (d := some 24) (v := wd p.1) rfl rfl (by kernel_rfl) (by kernel_rfl) (by kernel_rfl) (fun _ _ _ h => by first | exact h | cases h.1) (Or.inl ⟨by rfl, fun W hW => ?_⟩) hH ?_
    ·have k0 := hW.2 0 _ rfl; have k1 := hW.2 1 _ rfl; have k2 := hW.2 2 _ rfl; have k3 := hW.2 3 _ rfl
     simp only [Nat.zero_add] at k0 k1 k2 k3
     clear hW hH
     unfold wd
     go_simp
    simp only [Act.put, List.setIfInBounds_toArray, List.set_cons_zero, List.set_cons_succ]
    refine take_d (i := 2) (d := some 25) (v := .pointer (some ⟨pa, 0, none⟩)) rfl rfl (by kernel_rfl) (by kernel_rfl) (by kernel_rfl) (fun _ _ _ h => by first | exact h | cases h.1) (Or.inl ⟨by rfl, fun W hW => ?_⟩) hH ?_
    ·clear hW hH
     go_simp
    simp only [Act.put, List.setIfInBounds_toArray, List.set_cons_zero, List.set_cons_succ]
    refine take_d (i := 3) (d := some 26) (v := .pointer (some ⟨pa, 0, none⟩)) rfl rfl (by kernel_rfl) (by kernel_rfl) (by kernel_rfl) (fun _ _ _ h => by first | exact h | cases h.1) (Or.inl ⟨by rfl, fun W hW => ?_⟩) hH ?_
    ·clear hW hH
     go_simp
    simp only [Act.put, List.setIfInBounds_toArray, List.set_cons_zero, List.set_cons_succ]
    refine take_d (i := 4) (d := some 27) (v := .pointer (some ⟨pa, 7, none⟩)) rfl rfl (by kernel_rfl) (by kernel_rfl) (by kernel_rfl) (fun _ _ _ h => by first | exact h | cases h.1) (Or.inl ⟨by rfl, fun W hW => ?_⟩) hH ?_
    ·clear hW hH
     go_simp
    simp only [Act.put, List.setIfInBounds_toArray, List.set_cons_zero, List.set_cons_succ]
    refine take_d (i := 5) (d := some 28) (v := .map (some ms)) rfl rfl (by kernel_rfl) (by kernel_rfl) (by kernel_rfl) (fun _ _ _ h => by first | exact h | cases h.1) (Or.inl ⟨by rfl, fun W hW => ?_⟩) hH ?_
    ·have k7 := (hW.1.cell (p := ⟨pa, 7, none⟩) hpl).trans hpa
     clear hW hH
     go_simp
    simp only [Act.put, List.setIfInBounds_toArray, List.set_cons_zero, List.set_cons_succ]
    refine take_d (i := 6) (d := some 29) (v := wd p.1) rfl rfl (by kernel_rfl) (by kernel_rfl) (by kernel_rfl) (fun _ _ _ h => by first | exact h | cases h.1) (Or.inl ⟨by rfl, fun W hW => ?_⟩) hH ?_
    ·have k0 := hW.2 0 _ rfl; have k1 := hW.2 1 _ rfl; have k2 := hW.2 2 _ rfl; have k3 := hW.2 3 _ rfl
     simp only [Nat.zero_add] at k0 k1 k2 k3
     clear hW hH
     unfold wd
     go_simp
    simp only [Act.put, List.setIfInBounds_toArray, List.set_cons_zero, List.set_cons_succ]
    refine take_d (i := 7) (d := some 30) (v := wd p.2) rfl rfl (by kernel_rfl) (by kernel_rfl) (by kernel_rfl) (fun _ _ _ h => by first | exact h | cases h.1) (Or.inl ⟨by rfl, fun W hW => ?_⟩) hH ?_
    ·have k7 := hlk W (hM.below hW.1)
     clear hW hH hlk
     go_simp
    simp only [Act.put, List.setIfInBounds_toArray, List.set_cons_zero, List.set_cons_succ]
    refine take_d (i := 8) (d := some 31) (v := .agg (slotCells p).toArray) rfl rfl (by kernel_rfl) (by kernel_rfl) (by kernel_rfl) (fun _ _ _ h => by first | exact h | cases h.1) (Or.inl ⟨by rfl, fun W hW => ?_⟩) hH ?_
    ·clear hW hH hlk
     unfold wd slotCells
     go_simp
    simp only [Act.put, List.setIfInBounds_toArray, List.set_cons_zero, List.set_cons_succ]
    have hoD : W1.drew.ownsRow w.heap.size 57 8 (.slice vL.a vL.n vL.c) k (flatS (ps.take k)) := own_below hoW2 (Below.refl _ _).drew
    have hcD : ∀ i kk, ks[i]? = some kk → CellsAt W1.drew g (i * 4) (wc kk) := fun i kk h => (hcW2 i kk h).below (Below.refl _ _).drew
    have hxD : xb < W1.drew.heap.size := hxl
    obtain ⟨zB, hzB⟩ : ∃ zB, W1.drew.heap.size = zB := ⟨_, rfl⟩
    generalize W1.drew = W2 at hH hoD hcD hxD hzB ⊢
    refine wpAnyH_ready (rs := [9]) (by kernel_rfl) (by simp) ?_
    refine AllReadyH.cons rfl (fun K hK => ?_) AllReadyH.nil
    unfold slotCells
    go_simp
    have hb4 : Below W2.heap.size W2 (W2.alloc (.cells (slotCells p).toArray 57)) := (Below.refl _ _).alloc (Nat.le_refl _) _
    have hn4 := cells_new W2 (slotCells p) 57
    refine hK.out _ (W2.alloc (.cells (slotCells p).toArray 57)) ⟨hH.1.trans (hb4.mono hH.1.size), hH.2.below hb4⟩ (fun hH => ?_)
    clear hK K
    replace hoD := own_below hoD hb4
    replace hcD : ∀ i kk, ks[i]? = some kk → CellsAt (W2.alloc (.cells (slotCells p).toArray 57)) g (i * 4) (wc kk) := fun i kk h => (hcD i kk h).below hb4
    have hsz4 : (W2.alloc (.cells (slotCells p).toArray 57)).heap.size = W2.heap.size + 1 := by simp
    generalize W2.alloc (.cells (slotCells p).toArray 57) = W3 at hH hoD hcD hn4 hsz4 ⊢
    refine wpAnyH_ready (rs := [10]) (by kernel_rfl) (by simp) ?_
    refine AllReadyH.cons rfl (fun K hK => ?_) AllReadyH.nil
    rw [if_pos (by rfl)]
    refine wp_append_lies W3 _ _ 29 rfl w.heap.size 57 i57 z57 8 64 ((q_underlying 29).trans Tryz.underlying29) hi57 hz57 hs57 hb57 hzs57 (by omega) _ _ _ rfl hoD ⟨zB, 0, none⟩ 1 1 (slotCells p) rfl rfl (fun j v hj => by rw [Addr.add_mid, ← hzB]; exact hn4 j v hj) (fun v hv => flatS_one [p] v (by rw [flatS, flatS, List.append_nil]; exact hv)) (by omega) (by simp [maxLen]; omega) (by omega) hH.1.size _ rfl ?_
    intro g2 n2 W4 hown4 hgrow hat hlt4
    have hb5 : Below w.heap.size w W4 := hH.1.trans (gb_to_below hgrow (own_ge hoD) hH.1.size)
    have hxne : vL.blk ≠ some xb := fun e => by have := hlo _ e; omega
    have hx4 : CellsAt W4 xb 0 (wc p.1) := fun j v hj => (hgrow.cell_far ⟨xb, 0 + j, none⟩ (by show xb < _; omega) (fun e => hxne e.symm)).trans (hH.2 j v hj)
    have hc4 : ∀ i kk, ks[i]? = some kk → CellsAt W4 g (i * 4) (wc kk) := fun i kk h j v hj => (hgrow.cell_far ⟨g, i * 4 + j, none⟩ (by show g < _; omega) (fun e => hne e.symm)).trans (hcD i kk h j v hj)
    refine hK.out _ _ ⟨hb5, hx4⟩ (fun hH => ?_)
    clear hK K
    refine take_d (i := 11) (d := some 3) (v := .slice (some ⟨g2, 0, none⟩) (k + 1) n2) rfl rfl (by kernel_rfl) (by kernel_rfl) (by kernel_rfl) (fun _ _ _ h => by first | exact h | cases h.1) (Or.inl ⟨by rfl, fun W hW => ?_⟩) hH ?_
    ·clear hW hH
     go_simp
    simp only [Act.put, List.setIfInBounds_toArray]
    refine wpAnyH_done (by kernel_rfl) ?_ _
    go_wp2_with fail
    refine ⟨⟨k + 1, ⟨some ⟨g2, 0, none⟩, k + 1, n2⟩, rfl, by go_num, by omega, hb5, hc4, ?_, ?_, ?_⟩, ?_⟩
    ·rw [htake, flatS_append, flatS, flatS, List.append_nil]; exact hown4
    ·intro e
     have e' : g2 = g := Option.some.inj e
     rcases hat with hat | hat
     ·exact hne (by rw [← e']; exact hat)
     ·omega
    ·have := hgrow.size; omega
    ·simp [Go.RowKit.intOf]; omega
   ·have hk' : k = ss.length := by omega
    subst hk'
    go_wp2_with fail
    simp [bodyPost, results, Tryz.results44, go_sem]
    refine ⟨vL, ⟨rfl, rfl, rfl⟩, ?_, hb⟩
    rw [← hpl2, List.take_length] at hoW
    rw [hps, ← hpl2]
    exact hoW
end Go.Mark
/-
 The ledger tells an account (32).
-/
namespace Go.Mark
open Go.RowKit Go.Proofs
/-- an account as the ledger keeps it: its marks, the block of its slots -/
def ledCells (d : AccD) (mk : SV) (ms : Nat) : List Value := [.int .u64 (lim d.bal 0), .int .u64 (lim d.bal 1), .int .u64 (lim d.bal 2), .int .u64 (lim d.bal 3), .int .i64 d.nonce, .string d.code, .slice mk.a mk.n mk.c, .map (some ms)]
/-- block pa holds an account of the ledger's -/
structure LedAt (w : World) (pa : Nat) (d : AccD) : Prop where
 ex : ∃ mk ms, CellsAt w pa 0 (ledCells d mk ms) ∧ MapB wd w ms (slotL d.slots)
 key : ∀ p ∈ d.slots, p.1 < M ∧ p.2 < M
 nd : (d.slots.map (·.1)).Nodup
 num : d.slots.length < 1000000
theorem LedAt.lt {w : World} {pa : Nat} {d : AccD} (h : LedAt w pa d) : pa < w.heap.size := by
 obtain ⟨mk, ms, hc, _⟩ := h.ex
 have := hc 0 _ rfl
 simp only [World.cell?] at this
 cases hh : w.heap[pa]? with
 | none => rw [Nat.zero_add] at this; simp only [hh] at this; cases this
 | some o => exact (Array.getElem?_eq_some_iff.1 hh).1
theorem LedAt.below {w w' : World} {pa : Nat} {d : AccD} (h : LedAt w pa d) (hb : Below w.heap.size w w') : LedAt w' pa d := by
 obtain ⟨mk, ms, hc, hM⟩ := h.ex
 exact ⟨⟨mk, ms, hc.below hb, hM.below hb⟩, h.key, h.nd, h.num⟩
set_option maxRecDepth 100000 in
set_option maxHeartbeats 4000000 in
theorem tell32 (d : AccD) (pa : Nat) (w : World) (h : LedAt w pa d) :
  Calls TryQ.prog 32 #[.pointer (some ⟨pa, 0, none⟩), .int .i64 d.id] w fun e w' => ∃ v : SV, e = .returned (.agg (accCells (sK d) v).toArray) ∧ w'.ownsRow w.heap.size 57 8 (.slice v.a v.n v.c) (sK d).slots.length (flatS (sK d).slots) ∧ Below w.heap.size w w' := by
 have hpl := h.lt
 obtain ⟨mk, ms, hc, hM⟩ := h.ex
 have hkey := h.key
 have hnd := h.nd
 have hnum := h.num
 have hsl : (sK d).slots.length = d.slots.length := (srt_perm _ _).length_eq
 rw [hsl]
 go_enter TryQ.func32, Tryz.ntmps32
 go_upto_region 1 with fail
 obtain ⟨o, ho⟩ : ∃ o, o = w.heap.size := ⟨_, rfl⟩
 have hb1 : Below w.heap.size w (w.alloc (.cells #[.int .i64 0, .int .u64 0, .int .u64 0, .int .u64 0, .int .u64 0, .int .i64 0, .string ⟨#[]⟩, .slice none 0 0] 31)) := (Below.refl _ _).alloc (Nat.le_refl _) _
 have ht1 : (w.alloc (.cells #[.int .i64 0, .int .u64 0, .int .u64 0, .int .u64 0, .int .u64 0, .int .i64 0, .string ⟨#[]⟩, .slice none 0 0] 31)).there w.heap.size 0 8 := there_new w #[.int .i64 0, .int .u64 0, .int .u64 0, .int .u64 0, .int .u64 0, .int .i64 0, .string ⟨#[]⟩, .slice none 0 0] 31
 have hl1 : w.heap.size < (w.alloc (.cells #[.int .i64 0, .int .u64 0, .int .u64 0, .int .u64 0, .int .u64 0, .int .i64 0, .string ⟨#[]⟩, .slice none 0 0] 31)).heap.size := by simp
 generalize w.alloc (.cells #[.int .i64 0, .int .u64 0, .int .u64 0, .int .u64 0, .int .u64 0, .int .i64 0, .string ⟨#[]⟩, .slice none 0 0] 31) = W1 at hb1 ht1 hl1 ⊢
 refine wp_region_held_drew (S := fun W => Below w.heap.size w W) (by kernel_rfl) hb1.drew (fun hH => ?_)
 refine take_d (i := 0) (d := some 5) (v := .int .i64 d.id) rfl rfl (by kernel_rfl) (by kernel_rfl) (by kernel_rfl) (fun _ _ _ h => by first | exact h | cases h.1) (Or.inl ⟨by rfl, fun W hW => ?_⟩) hH ?_
 ·clear hW hH
  go_simp
 simp only [Act.put, List.setIfInBounds_toArray, List.set_cons_zero, List.set_cons_succ]
 refine take_d (i := 1) (d := some 6) (v := .pointer (some ⟨pa, 0, none⟩)) rfl rfl (by kernel_rfl) (by kernel_rfl) (by kernel_rfl) (fun _ _ _ h => by first | exact h | cases h.1) (Or.inl ⟨by rfl, fun W hW => ?_⟩) hH ?_
 ·clear hW hH
  go_simp
 simp only [Act.put, List.setIfInBounds_toArray, List.set_cons_zero, List.set_cons_succ]
 refine take_d (i := 2) (d := some 7) (v := .pointer (some ⟨pa, 0, none⟩)) rfl rfl (by kernel_rfl) (by kernel_rfl) (by kernel_rfl) (fun _ _ _ h => by first | exact h | cases h.1) (Or.inl ⟨by rfl, fun W hW => ?_⟩) hH ?_
 ·clear hW hH
  go_simp
 simp only [Act.put, List.setIfInBounds_toArray, List.set_cons_zero, List.set_cons_succ]
 refine take_d (i := 3) (d := some 8) (v := .pointer (some ⟨pa, 0, none⟩)) rfl rfl (by kernel_rfl) (by kernel_rfl) (by kernel_rfl) (fun _ _ _ h => by first | exact h | cases h.1) (Or.inl ⟨by rfl, fun W hW => ?_⟩) hH ?_
 ·clear hW hH
  go_simp
 simp only [Act.put, List.setIfInBounds_toArray, List.set_cons_zero, List.set_cons_succ]
 refine take_d (i := 4) (d := some 9) (v := wd d.bal) rfl rfl (by kernel_rfl) (by kernel_rfl) (by kernel_rfl) (fun _ _ _ h => by first | exact h | cases h.1) (Or.inl ⟨by rfl, fun W hW => ?_⟩) hH ?_
 ·have h8 : CellsAt W pa 0 (ledCells d mk ms) := hc.below hW
  have k0 := h8 0 _ rfl; have k1 := h8 1 _ rfl; have k2 := h8 2 _ rfl; have k3 := h8 3 _ rfl
  simp only [Nat.zero_add] at k0 k1 k2 k3
  clear h8 hW hH
  unfold wd
  go_simp
 simp only [Act.put, List.setIfInBounds_toArray, List.set_cons_zero, List.set_cons_succ]
 refine take_d (i := 5) (d := some 10) (v := .pointer (some ⟨pa, 0, none⟩)) rfl rfl (by kernel_rfl) (by kernel_rfl) (by kernel_rfl) (fun _ _ _ h => by first | exact h | cases h.1) (Or.inl ⟨by rfl, fun W hW => ?_⟩) hH ?_
 ·clear hW hH
  go_simp
 simp only [Act.put, List.setIfInBounds_toArray, List.set_cons_zero, List.set_cons_succ]
 refine take_d (i := 6) (d := some 11) (v := .pointer (some ⟨pa, 0, none⟩)) rfl rfl (by kernel_rfl) (by kernel_rfl) (by kernel_rfl) (fun _ _ _ h => by first | exact h | cases h.1) (Or.inl ⟨by rfl, fun W hW => ?_⟩) hH ?_
 ·clear hW hH
  go_simp
 simp only [Act.put, List.setIfInBounds_toArray, List.set_cons_zero, List.set_cons_succ]
 refine take_d (i := 7) (d := some 12) (v := .pointer (some ⟨pa, 4, none⟩)) rfl rfl (by kernel_rfl) (by kernel_rfl) (by kernel_rfl) (fun _ _ _ h => by first | exact h | cases h.1) (Or.inl ⟨by rfl, fun W hW => ?_⟩) hH ?_
 ·clear hW hH
  go_simp
 simp only [Act.put, List.setIfInBounds_toArray, List.set_cons_zero, List.set_cons_succ]
 refine take_d (i := 8) (d := some 13) (v := .int .i64 d.nonce) rfl rfl (by kernel_rfl) (by kernel_rfl) (by kernel_rfl) (fun _ _ _ h => by first | exact h | cases h.1) (Or.inl ⟨by rfl, fun W hW => ?_⟩) hH ?_
 ·have k4 := (hc.below hW) 4 _ rfl
  simp only [Nat.zero_add] at k4
  clear hW hH
  go_simp
 simp only [Act.put, List.setIfInBounds_toArray, List.set_cons_zero, List.set_cons_succ]
 refine take_d (i := 9) (d := some 14) (v := .pointer (some ⟨pa, 0, none⟩)) rfl rfl (by kernel_rfl) (by kernel_rfl) (by kernel_rfl) (fun _ _ _ h => by first | exact h | cases h.1) (Or.inl ⟨by rfl, fun W hW => ?_⟩) hH ?_
 ·clear hW hH
  go_simp
 simp only [Act.put, List.setIfInBounds_toArray, List.set_cons_zero, List.set_cons_succ]
 refine take_d (i := 10) (d := some 15) (v := .pointer (some ⟨pa, 0, none⟩)) rfl rfl (by kernel_rfl) (by kernel_rfl) (by kernel_rfl) (fun _ _ _ h => by first | exact h | cases h.1) (Or.inl ⟨by rfl, fun W hW => ?_⟩) hH ?_
 ·clear hW hH
  go_simp
 simp only [Act.put, List.setIfInBounds_toArray, List.set_cons_zero, List.set_cons_succ]
 refine take_d (i := 11) (d := some 16) (v := .pointer (some ⟨pa, 5, none⟩)) rfl rfl (by kernel_rfl) (by kernel_rfl) (by kernel_rfl) (fun _ _ _ h => by first | exact h | cases h.1) (Or.inl ⟨by rfl, fun W hW => ?_⟩) hH ?_
 ·clear hW hH
  go_simp
 simp only [Act.put, List.setIfInBounds_toArray, List.set_cons_zero, List.set_cons_succ]
 refine take_d (i := 12) (d := some 17) (v := .string d.code) rfl rfl (by kernel_rfl) (by kernel_rfl) (by kernel_rfl) (fun _ _ _ h => by first | exact h | cases h.1) (Or.inl ⟨by rfl, fun W hW => ?_⟩) hH ?_
 ·have k4 := (hc.below hW) 5 _ rfl
  simp only [Nat.zero_add] at k4
  clear hW hH
  go_simp
 simp only [Act.put, List.setIfInBounds_toArray, List.set_cons_zero, List.set_cons_succ]
 refine take_d (i := 13) (d := some 18) (v := .pointer (some ⟨pa, 0, none⟩)) rfl rfl (by kernel_rfl) (by kernel_rfl) (by kernel_rfl) (fun _ _ _ h => by first | exact h | cases h.1) (Or.inl ⟨by rfl, fun W hW => ?_⟩) hH ?_
 ·clear hW hH
  go_simp
 simp only [Act.put, List.setIfInBounds_toArray, List.set_cons_zero, List.set_cons_succ]
 have ht2 : W1.drew.there w.heap.size 0 8 := ht1
 have hl2 : w.heap.size < W1.drew.heap.size := hl1
 generalize W1.drew = W2 at hH ht2 hl2 ⊢
 have hts := tellSlots d.slots pa ms W2 (by have := (hc.below hH) 7 _ rfl; rw [Nat.zero_add] at this; exact this) (Nat.lt_of_lt_of_le hpl hH.size) (hM.below hH) hkey hnd hnum
 refine wpAnyH_ready (rs := [14]) (by kernel_rfl) (by simp) ?_
 refine AllReadyH.cons rfl (fun K hK => ?_) AllReadyH.nil
 go_simp
 refine hts.mono ?_
 rintro e W3 ⟨v, rfl, hown, hb3⟩
 go_wp2_with fail
 refine hK.out _ _ (hH.trans (hb3.mono hH.size)) (fun hH => ?_)
 clear hK K
 refine take_d (i := 15) (d := some 20) (v := .agg (accCells d v).toArray) rfl rfl (by kernel_rfl) (by kernel_rfl) (by kernel_rfl) (fun _ _ _ h => by first | exact h | cases h.1) (Or.inl ⟨by rfl, fun W hW => ?_⟩) hH ?_
 ·clear hW hH
  unfold wd accCells
  go_simp
 simp only [Act.put, List.setIfInBounds_toArray, List.set_cons_zero, List.set_cons_succ]
 refine wpAnyH_ready (rs := [16]) (by kernel_rfl) (by simp) ?_
 refine AllReadyH.cons rfl (fun K hK => ?_) AllReadyH.nil
 rw [if_pos (by rfl)]
 have ht3 : W3.there w.heap.size 0 8 := fun j hj => by
  rw [hb3.cell (p := ⟨w.heap.size, 0 + j, none⟩) hl2, hb3.frozen (p := ⟨w.heap.size, 0 + j, none⟩) hl2]; exact ht2 j hj
 refine wp_store_mid 31 _ _ rfl w.heap.size 0 (accCells d v).toArray rfl rfl ht3 (by kernel_rfl) (by simp [accCells, Value.oneCell']) ?_
 have hb4 : Below w.heap.size w (W3.setCells w.heap.size 0 (accCells d v)) := below_setCells _ _ _ _ _ _ hH (Nat.le_refl _)
 refine hK.out _ _ hb4 (fun hH => ?_)
 clear hK K
 refine wpAnyH_done (by kernel_rfl) ?_ _
 have hcs : CellsAt (W3.setCells w.heap.size 0 (accCells d v)) w.heap.size 0 (accCells d v) := World.rangeAt_setCells_same _ _ _ _ (fun j hj => ht3 j hj)
 have hne : v.blk ≠ some w.heap.size := fun e => by have := own_ge hown _ e; omega
 have hown4 : (W3.setCells w.heap.size 0 (accCells d v)).ownsRow w.heap.size 57 8 (.slice v.a v.n v.c) d.slots.length (flatS (srt (fun q => (q.1 : Int)) d.slots)) := own_base (own_grown hown (gb_set (accCells d v) 0 W3 (gb_refl W3 (some w.heap.size))) (fun g e1 e2 => hne (e1.trans e2.symm))) (by omega)
 change Exit.then _ _ _ _ (W3.setCells w.heap.size 0 (accCells d v))
 generalize W3.setCells w.heap.size 0 (accCells d v) = W4 at hcs hown4 hb4 ⊢
 have x0 := hcs 0 _ rfl
 have x1 := hcs 1 _ rfl
 have x2 := hcs 2 _ rfl
 have x3 := hcs 3 _ rfl
 have x4 := hcs 4 _ rfl
 have x5 := hcs 5 _ rfl
 have x6 := hcs 6 _ rfl
 have x7 := hcs 7 _ rfl
 simp only [Nat.zero_add] at x0 x1 x2 x3 x4 x5 x6 x7
 go_wp2_with fail
 simp [bodyPost, results, Tryz.results32, go_sem, x0, x1, x2, x3, x4, x5, x6, x7]
 exact ⟨v, rfl, hown4, hb4⟩
end Go.Mark
/-
  Laying: slices.Sorted(maps.Keys(m)) at int keys, at the stripped program.
-/
namespace Go.Proofs
open Go.Mark Go.RowKit Go.Maps Go.Sort Go.Shelf
def TryQ.keysI_ren : Go.Shelf.Ren := ⟨fun | 7 => 31 | 10 => 43 | n => n, fun | 23 => 82 | 26 => 3 | 3 => 87 | 28 => 101 | 0 => 0 | 27 => 100 | 33 => 120 | 4 => 4 | n => n, fun | n => n⟩
theorem TryQ.keysI : Go.Proofs.SlLaysZI.n7 TryQ.prog TryQ.keysI_ren where
  mixed := by kernel_rfl
  f7 := ⟨ "maps.Keys[map[int]*purser/ledger.account,int,*purser/ledger.account]", by decide, TryQ.func31.trans (congrArg some (by kernel_rfl))⟩
  f10 := ⟨ "maps.Keys[map[int]*purser/ledger.account,int,*purser/ledger.account]$1", by decide, TryQ.func43.trans (congrArg some (by kernel_rfl))⟩
  t0 := (q_underlying 0).trans Tryz.underlying0
  a0 := fun w => (q_run_isAgg 0 w).trans (Tryz.isAgg0 w)
  z0 := fun w => (q_run_sizeOf 0 w).trans (Tryz.sizeOf0 w)
  v0 := fun w => (q_run_zeroValue 0 w).trans (Tryz.zeroValue0 w)
  t4 := (q_underlying 4).trans Tryz.underlying4
  a4 := fun w => (q_run_isAgg 4 w).trans (Tryz.isAgg4 w)
  z4 := fun w => (q_run_sizeOf 4 w).trans (Tryz.sizeOf4 w)
  v4 := fun w => (q_run_zeroValue 4 w).trans (Tryz.zeroValue4 w)
  t23 := (q_underlying 82).trans Tryz.underlying82
  a23 := fun w => (q_run_isAgg 82 w).trans (Tryz.isAgg82 w)
  z23 := fun w => (q_run_sizeOf 82 w).trans (Tryz.sizeOf82 w)
  v23 := fun w => (q_run_zeroValue 82 w).trans (Tryz.zeroValue82 w)
  t26 := (q_underlying 3).trans Tryz.underlying3
  a26 := fun w => (q_run_isAgg 3 w).trans (Tryz.isAgg3 w)
  z26 := fun w => (q_run_sizeOf 3 w).trans (Tryz.sizeOf3 w)
  v26 := fun w => (q_run_zeroValue 3 w).trans (Tryz.zeroValue3 w)
  t27 := (q_underlying 100).trans Tryz.underlying100
  a27 := fun w => (q_run_isAgg 100 w).trans (Tryz.isAgg100 w)
  z27 := fun w => (q_run_sizeOf 100 w).trans (Tryz.sizeOf100 w)
  v27 := fun w => (q_run_zeroValue 100 w).trans (Tryz.zeroValue100 w)
  t28 := (q_underlying 101).trans Tryz.underlying101
  a28 := fun w => (q_run_isAgg 101 w).trans (Tryz.isAgg101 w)
  z28 := fun w => (q_run_sizeOf 101 w).trans (Tryz.sizeOf101 w)
  v28 := fun w => (q_run_zeroValue 101 w).trans (Tryz.zeroValue101 w)
  t33 := (q_underlying 120).trans Tryz.underlying120
  a33 := fun w => (q_run_isAgg 120 w).trans (Tryz.isAgg120 w)
  z33 := fun w => (q_run_sizeOf 120 w).trans (Tryz.sizeOf120 w)
  v33 := fun w => (q_run_zeroValue 120 w).trans (Tryz.zeroValue120 w)
def TryQ.sortedI_ren : Go.Shelf.Ren := ⟨fun | 6 => 30 | 8 => 41 | 9 => 42 | 11 => 61 | 13 => 63 | 12 => 62 | 23 => 86 | 24 => 87 | 14 => 77 | 15 => 78 | 16 => 79 | 17 => 80 | 18 => 81 | 19 => 82 | 20 => 83 | 21 => 84 | 22 => 85 | 25 => 95 | 26 => 96 | 27 => 97 | 28 => 98 | 29 => 99 | 30 => 100 | 31 => 104 | n => n, fun | 26 => 3 | 28 => 101 | 24 => 74 | 0 => 0 | 3 => 3 | 37 => 129 | 48 => 114 | 50 => 26 | 4 => 4 | 40 => 160 | 39 => 159 | 45 => 165 | 5 => 5 | 9 => 9 | 51 => 175 | 55 => 178 | 57 => 183 | 58 => 184 | 33 => 120 | n => n, fun | n => n⟩
theorem TryQ.sortedI : Go.Proofs.SlLaysZI.n6 TryQ.prog TryQ.sortedI_ren where
  mixed := by kernel_rfl
  f6 := ⟨ "slices.Sorted[int]", by decide, TryQ.func30.trans (congrArg some (by kernel_rfl))⟩
  f8 := ⟨ "slices.Collect[int]", by decide, TryQ.func41.trans (congrArg some (by kernel_rfl))⟩
  f11 := ⟨ "slices.AppendSeq[[]int,int]", by decide, TryQ.func61.trans (congrArg some (by kernel_rfl))⟩
  t0 := (q_underlying 0).trans Tryz.underlying0
  a0 := fun w => (q_run_isAgg 0 w).trans (Tryz.isAgg0 w)
  z0 := fun w => (q_run_sizeOf 0 w).trans (Tryz.sizeOf0 w)
  v0 := fun w => (q_run_zeroValue 0 w).trans (Tryz.zeroValue0 w)
  t24 := (q_underlying 74).trans Tryz.underlying74
  a24 := fun w => (q_run_isAgg 74 w).trans (Tryz.isAgg74 w)
  z24 := fun w => (q_run_sizeOf 74 w).trans (Tryz.sizeOf74 w)
  v24 := fun w => (q_run_zeroValue 74 w).trans (Tryz.zeroValue74 w)
  t26 := (q_underlying 3).trans Tryz.underlying3
  a26 := fun w => (q_run_isAgg 3 w).trans (Tryz.isAgg3 w)
  z26 := fun w => (q_run_sizeOf 3 w).trans (Tryz.sizeOf3 w)
  v26 := fun w => (q_run_zeroValue 3 w).trans (Tryz.zeroValue3 w)
  t28 := (q_underlying 101).trans Tryz.underlying101
  a28 := fun w => (q_run_isAgg 101 w).trans (Tryz.isAgg101 w)
  z28 := fun w => (q_run_sizeOf 101 w).trans (Tryz.sizeOf101 w)
  v28 := fun w => (q_run_zeroValue 101 w).trans (Tryz.zeroValue101 w)
  i26 := by kernel_rfl
def TryQ.sortI_ren : Go.Shelf.Ren := ⟨fun | 5 => 42 | 8 => 63 | 7 => 62 | 19 => 86 | 20 => 87 | 10 => 77 | 11 => 78 | 12 => 79 | 13 => 80 | 14 => 81 | 15 => 82 | 16 => 83 | 17 => 84 | 18 => 85 | 30 => 95 | 31 => 96 | 32 => 97 | 33 => 98 | 34 => 99 | 35 => 100 | 40 => 104 | n => n, fun | 23 => 74 | 25 => 3 | 3 => 3 | 32 => 129 | 22 => 74 | 0 => 0 | 44 => 114 | 46 => 26 | 4 => 4 | 36 => 160 | 35 => 159 | 41 => 165 | 5 => 5 | 9 => 9 | 53 => 175 | 57 => 178 | 63 => 183 | 64 => 184 | n => n, fun | n => n⟩
theorem TryQ.sortI : Go.Proofs.SlLaysM.n5 TryQ.prog TryQ.sortI_ren where
  mixed := by kernel_rfl
  f5 := ⟨ "slices.Sort[[]int,int]", by decide, TryQ.func42.trans (congrArg some (by kernel_rfl))⟩
  f7 := ⟨ "slices.pdqsortOrdered[int]", by decide, TryQ.func62.trans (congrArg some (by kernel_rfl))⟩
  f8 := TryQ.func63.trans (congrArg some (by kernel_rfl))
  f10 := ⟨ "slices.insertionSortOrdered[int]", by decide, TryQ.func77.trans (congrArg some (by kernel_rfl))⟩
  f11 := ⟨ "slices.heapSortOrdered[int]", by decide, TryQ.func78.trans (congrArg some (by kernel_rfl))⟩
  f12 := ⟨ "slices.breakPatternsOrdered[int]", by decide, TryQ.func79.trans (congrArg some (by kernel_rfl))⟩
  f13 := ⟨ "slices.choosePivotOrdered[int]", by decide, TryQ.func80.trans (congrArg some (by kernel_rfl))⟩
  f14 := ⟨ "slices.reverseRangeOrdered[int]", by decide, TryQ.func81.trans (congrArg some (by kernel_rfl))⟩
  f15 := ⟨ "slices.partialInsertionSortOrdered[int]", by decide, TryQ.func82.trans (congrArg some (by kernel_rfl))⟩
  f16 := ⟨ "cmp.Less[int]", by decide, TryQ.func83.trans (congrArg some (by kernel_rfl))⟩
  f17 := ⟨ "slices.partitionEqualOrdered[int]", by decide, TryQ.func84.trans (congrArg some (by kernel_rfl))⟩
  f18 := ⟨ "slices.partitionOrdered[int]", by decide, TryQ.func85.trans (congrArg some (by kernel_rfl))⟩
  f19 := TryQ.func86.trans (congrArg some (by kernel_rfl))
  f20 := TryQ.func87.trans (congrArg some (by kernel_rfl))
  f30 := ⟨ "slices.siftDownOrdered[int]", by decide, TryQ.func95.trans (congrArg some (by kernel_rfl))⟩
  f31 := TryQ.func96.trans (congrArg some (by kernel_rfl))
  f32 := TryQ.func97.trans (congrArg some (by kernel_rfl))
  f33 := ⟨ "slices.medianAdjacentOrdered[int]", by decide, TryQ.func98.trans (congrArg some (by kernel_rfl))⟩
  f34 := ⟨ "slices.medianOrdered[int]", by decide, TryQ.func99.trans (congrArg some (by kernel_rfl))⟩
  f35 := ⟨ "cmp.isNaN[int]", by decide, TryQ.func100.trans (congrArg some (by kernel_rfl))⟩
  f40 := ⟨ "slices.order2Ordered[int]", by decide, TryQ.func104.trans (congrArg some (by kernel_rfl))⟩
  t0 := (q_underlying 0).trans Tryz.underlying0
  a0 := fun w => (q_run_isAgg 0 w).trans (Tryz.isAgg0 w)
  z0 := fun w => (q_run_sizeOf 0 w).trans (Tryz.sizeOf0 w)
  v0 := fun w => (q_run_zeroValue 0 w).trans (Tryz.zeroValue0 w)
  t3 := (q_underlying 3).trans Tryz.underlying3
  a3 := fun w => (q_run_isAgg 3 w).trans (Tryz.isAgg3 w)
  z3 := fun w => (q_run_sizeOf 3 w).trans (Tryz.sizeOf3 w)
  v3 := fun w => (q_run_zeroValue 3 w).trans (Tryz.zeroValue3 w)
  t4 := (q_underlying 4).trans Tryz.underlying4
  a4 := fun w => (q_run_isAgg 4 w).trans (Tryz.isAgg4 w)
  z4 := fun w => (q_run_sizeOf 4 w).trans (Tryz.sizeOf4 w)
  v4 := fun w => (q_run_zeroValue 4 w).trans (Tryz.zeroValue4 w)
  t5 := (q_underlying 5).trans Tryz.underlying5
  a5 := fun w => (q_run_isAgg 5 w).trans (Tryz.isAgg5 w)
  z5 := fun w => (q_run_sizeOf 5 w).trans (Tryz.sizeOf5 w)
  v5 := fun w => (q_run_zeroValue 5 w).trans (Tryz.zeroValue5 w)
  t9 := (q_underlying 9).trans Tryz.underlying9
  a9 := fun w => (q_run_isAgg 9 w).trans (Tryz.isAgg9 w)
  z9 := fun w => (q_run_sizeOf 9 w).trans (Tryz.sizeOf9 w)
  v9 := fun w => (q_run_zeroValue 9 w).trans (Tryz.zeroValue9 w)
  t22 := (q_underlying 74).trans Tryz.underlying74
  a22 := fun w => (q_run_isAgg 74 w).trans (Tryz.isAgg74 w)
  z22 := fun w => (q_run_sizeOf 74 w).trans (Tryz.sizeOf74 w)
  v22 := fun w => (q_run_zeroValue 74 w).trans (Tryz.zeroValue74 w)
  t23 := (q_underlying 74).trans Tryz.underlying74
  a23 := fun w => (q_run_isAgg 74 w).trans (Tryz.isAgg74 w)
  z23 := fun w => (q_run_sizeOf 74 w).trans (Tryz.sizeOf74 w)
  v23 := fun w => (q_run_zeroValue 74 w).trans (Tryz.zeroValue74 w)
  t25 := (q_underlying 3).trans Tryz.underlying3
  a25 := fun w => (q_run_isAgg 3 w).trans (Tryz.isAgg3 w)
  z25 := fun w => (q_run_sizeOf 3 w).trans (Tryz.sizeOf3 w)
  v25 := fun w => (q_run_zeroValue 3 w).trans (Tryz.zeroValue3 w)
  t32 := (q_underlying 129).trans Tryz.underlying129
  a32 := fun w => (q_run_isAgg 129 w).trans (Tryz.isAgg129 w)
  z32 := fun w => (q_run_sizeOf 129 w).trans (Tryz.sizeOf129 w)
  v32 := fun w => (q_run_zeroValue 129 w).trans (Tryz.zeroValue129 w)
  t35 := (q_underlying 159).trans Tryz.underlying159
  a35 := fun w => (q_run_isAgg 159 w).trans (Tryz.isAgg159 w)
  z35 := fun w => (q_run_sizeOf 159 w).trans (Tryz.sizeOf159 w)
  v35 := fun w => (q_run_zeroValue 159 w).trans (Tryz.zeroValue159 w)
  t36 := (q_underlying 160).trans Tryz.underlying160
  a36 := fun w => (q_run_isAgg 160 w).trans (Tryz.isAgg160 w)
  z36 := fun w => (q_run_sizeOf 160 w).trans (Tryz.sizeOf160 w)
  v36 := fun w => (q_run_zeroValue 160 w).trans (Tryz.zeroValue160 w)
  t41 := (q_underlying 165).trans Tryz.underlying165
  a41 := fun w => (q_run_isAgg 165 w).trans (Tryz.isAgg165 w)
  z41 := fun w => (q_run_sizeOf 165 w).trans (Tryz.sizeOf165 w)
  v41 := fun w => (q_run_zeroValue 165 w).trans (Tryz.zeroValue165 w)
  t44 := (q_underlying 114).trans Tryz.underlying114
  a44 := fun w => (q_run_isAgg 114 w).trans (Tryz.isAgg114 w)
  z44 := fun w => (q_run_sizeOf 114 w).trans (Tryz.sizeOf114 w)
  v44 := fun w => (q_run_zeroValue 114 w).trans (Tryz.zeroValue114 w)
  t46 := (q_underlying 26).trans Tryz.underlying26
  a46 := fun w => (q_run_isAgg 26 w).trans (Tryz.isAgg26 w)
  z46 := fun w => (q_run_sizeOf 26 w).trans (Tryz.sizeOf26 w)
  v46 := fun w => (q_run_zeroValue 26 w).trans (Tryz.zeroValue26 w)
  t53 := (q_underlying 175).trans Tryz.underlying175
  a53 := fun w => (q_run_isAgg 175 w).trans (Tryz.isAgg175 w)
  z53 := fun w => (q_run_sizeOf 175 w).trans (Tryz.sizeOf175 w)
  v53 := fun w => (q_run_zeroValue 175 w).trans (Tryz.zeroValue175 w)
  t57 := (q_underlying 178).trans Tryz.underlying178
  a57 := fun w => (q_run_isAgg 178 w).trans (Tryz.isAgg178 w)
  z57 := fun w => (q_run_sizeOf 178 w).trans (Tryz.sizeOf178 w)
  v57 := fun w => (q_run_zeroValue 178 w).trans (Tryz.zeroValue178 w)
  t63 := (q_underlying 183).trans Tryz.underlying183
  a63 := fun w => (q_run_isAgg 183 w).trans (Tryz.isAgg183 w)
  z63 := fun w => (q_run_sizeOf 183 w).trans (Tryz.sizeOf183 w)
  v63 := fun w => (q_run_zeroValue 183 w).trans (Tryz.zeroValue183 w)
  t64 := (q_underlying 184).trans Tryz.underlying184
  a64 := fun w => (q_run_isAgg 184 w).trans (Tryz.isAgg184 w)
  z64 := fun w => (q_run_sizeOf 184 w).trans (Tryz.sizeOf184 w)
  v64 := fun w => (q_run_zeroValue 184 w).trans (Tryz.zeroValue184 w)
end Go.Proofs
