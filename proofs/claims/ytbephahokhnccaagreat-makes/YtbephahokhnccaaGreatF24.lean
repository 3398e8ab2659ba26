/-
 The book of lists: takeAccounts (15).
-/
import Derived.Test.YtbephahokhnccaaGreatF23
namespace Go.Mark
open Go.RowKit Go.Proofs
theorem info60 : ∃ i z, TryQ.prog.info? 60 = some i ∧ i.zero = some z ∧ i.size = 2 ∧ i.bytes = 32 ∧ z.cells.size = 2 := by
 have e8 : (TryQ.prog.info? 60).map (·.size) = some 2 := by kernel_rfl
 have e64 : (TryQ.prog.info? 60).map (·.bytes) = some 32 := by kernel_rfl
 have ez : ((TryQ.prog.info? 60).bind (·.zero)).map (·.cells.size) = some 2 := by kernel_rfl
 obtain ⟨i, hi⟩ : ∃ i, TryQ.prog.info? 60 = some i := by
  cases h : TryQ.prog.info? 60 with
  | none => rw [h] at e8; cases e8
  | some i => exact ⟨i, rfl⟩
 rw [hi] at e8 e64 ez
 replace ez : i.zero.map (·.cells.size) = some 2 := ez
 cases hz : i.zero with
 | none => rw [hz] at ez; cases ez
 | some z => rw [hz] at ez; exact ⟨i, z, hi, hz, Option.some.inj e8, Option.some.inj e64, Option.some.inj ez⟩
/-- the account that a list is written full with -/
abbrev cA (m : Nat) : List Value := accCells (accX m) ⟨none, 0, 0⟩
abbrev xA (m : Nat) : AccD × SV := (accX m, ⟨none, 0, 0⟩)
theorem acc_num (m : Nat) : cA m = [.int .i64 (-(m : Int)), .int .u64 0, .int .u64 0, .int .u64 0, .int .u64 0, .int .i64 0, .string ⟨#[]⟩, .slice none 0 0] := by
 have z : ∀ j, lim 0 j = 0 := fun j => by simp [lim]
 simp [cA, accCells, accX, z]
 rfl
/-- a list that was put behind another -/
theorem Book.pushA {W W3 : World} {bk : Nat} {B : Bk} (h : Book W bk B) {g n m : Nat} {cv : SV} (hg : W.grownBy W3 B.va.blk) (hown : W3.ownsRow 0 60 2 (.slice (some ⟨g, 0, none⟩) (B.aa.length + 1) n) (B.aa.length + 1) (flatN B.aa ++ [.slice cv.a cv.n cv.c, .int .i64 (-(m : Int))])) (hr : RowAt W 31 (cA m) cv) :
  Book (W3.setCell ⟨bk, 1, none⟩ (.slice (some ⟨g, 0, none⟩) (B.aa.length + 1) n)) bk { B with va := ⟨some ⟨g, 0, none⟩, B.aa.length + 1, n⟩, aa := B.aa ++ [(cv, m)] } := by
 have tb : ∃ cur, W.heap[bk]? = some (.cells cur 37 (0, 0)) := ⟨_, h.obj⟩
 have hbv : ∀ g', B.va.blk = some g' → g' ≠ bk := fun g' e => type_ne (own_type h.oa g' e) tb (by decide)
 have hbl : bk < W.heap.size := (Array.getElem?_eq_some_iff.1 h.obj).1
 have hb3 : W3.heap[bk]? = some (.cells (bkCells B).toArray 37 (0, 0)) := (hg.block bk hbl (fun e => hbv bk e.symm rfl)).trans h.obj
 have same : ∀ g', g' < W.heap.size → g' ≠ bk → (∀ g2, B.va.blk = some g2 → g' ≠ g2) → (W3.setCell ⟨bk, 1, none⟩ (.slice (some ⟨g, 0, none⟩) (B.aa.length + 1) n)).heap[g']? = W.heap[g']? := fun g' h1 h2 h3 =>
  (heap_setCell_other W3 ⟨bk, 1, none⟩ g' _ h2).trans (hg.block g' h1 (fun e => h3 g' e.symm rfl))
 have hgb : g ≠ bk := type_ne (own_type hown g rfl) ⟨_, hb3⟩ (by decide)
 refine ⟨?_, ?_, ?_, ?_, ?_, ?_, h.ln, h.nb⟩
 ·rw [heap_setCell_same W3 bk 1 _ 37 _ hb3]
  rfl
 ·have hl : (B.aa ++ [(cv, m)]).length = B.aa.length + 1 := by simp
  rw [hl, flatN_append]
  exact own_same hown fun g' e => by cases e; exact heap_setCell_other W3 ⟨bk, 1, none⟩ g _ hgb
 ·exact own_same h.os fun g' e => same g' (own_lt h.os g' e) (type_ne (own_type h.os g' e) tb (by decide)) fun g2 e2 => type_ne (own_type h.os g' e) (own_type h.oa g2 e2) (by decide)
 ·exact own_same h.ol fun g' e => same g' (own_lt h.ol g' e) (type_ne (own_type h.ol g' e) tb (by decide)) fun g2 e2 => type_ne (own_type h.ol g' e) (own_type h.oa g2 e2) (by decide)
 ·intro p hp
  have key : RowAt W 31 (cA p.2) p.1 := by
   rcases List.mem_append.1 hp with hp | hp
   ·exact h.ra p hp
   ·rw [List.mem_singleton.1 hp]; exact hr
  exact key.same fun g' e => same g' (key.lt g' e).1 (type_ne (key.lt g' e).2 tb (by decide)) fun g2 e2 => type_ne (key.lt g' e).2 (own_type h.oa g2 e2) (by decide)
 ·exact fun p hp => (h.rs p hp).same fun g' e => same g' ((h.rs p hp).lt g' e).1 (type_ne ((h.rs p hp).lt g' e).2 tb (by decide)) fun g2 e2 => type_ne ((h.rs p hp).lt g' e).2 (own_type h.oa g2 e2) (by decide)
/-- a row of slots grows or is written into: the book stands, if what it holds of that row stands -/
theorem Book.rowA {W W3 : World} {bk : Nat} {B : Bk} (h : Book W bk B) {r : Option Nat} (hg : W.grownBy W3 r) (hr : ∀ g, r = some g → ∃ cur, W.heap[g]? = some (.cells cur 31 (0, 0))) (hs : ∀ p ∈ B.aa, ∀ g, p.1.blk = some g → r = some g → RowAt W3 31 (cA p.2) p.1) : Book W3 bk B := by
 have tb : ∃ cur, W.heap[bk]? = some (.cells cur 37 (0, 0)) := ⟨_, h.obj⟩
 have same : ∀ g', g' < W.heap.size → (∀ g2, r = some g2 → g' ≠ g2) → W3.heap[g']? = W.heap[g']? := fun g' h1 h3 => hg.block g' h1 (fun e => h3 g' e.symm rfl)
 refine ⟨?_, ?_, ?_, ?_, ?_, ?_, h.ln, h.nb⟩
 ·exact (same bk (Array.getElem?_eq_some_iff.1 h.obj).1 fun g2 e2 => type_ne tb (hr g2 e2) (by decide)).trans h.obj
 ·exact own_same h.oa fun g' e => same g' (own_lt h.oa g' e) fun g2 e2 => type_ne (own_type h.oa g' e) (hr g2 e2) (by decide)
 ·exact own_same h.os fun g' e => same g' (own_lt h.os g' e) fun g2 e2 => type_ne (own_type h.os g' e) (hr g2 e2) (by decide)
 ·exact own_same h.ol fun g' e => same g' (own_lt h.ol g' e) fun g2 e2 => type_ne (own_type h.ol g' e) (hr g2 e2) (by decide)
 ·intro p hp
  by_cases hc : ∃ g, p.1.blk = some g ∧ r = some g
  ·obtain ⟨g, h1, h2⟩ := hc
   exact hs p hp g h1 h2
  ·exact (h.ra p hp).same fun g' e => same g' ((h.ra p hp).lt g' e).1 fun g2 e2 e3 => hc ⟨g', e, by rw [e2, e3]⟩
 ·exact fun p hp => (h.rs p hp).same fun g' e => same g' ((h.rs p hp).lt g' e).1 fun g2 e2 => type_ne ((h.rs p hp).lt g' e).2 (hr g2 e2) (by decide)
/-- a book that is being written: w was the world, B the book, v the list that came out, m its number -/
structure Ta (w W : World) (bk m : Nat) (B B1 : Bk) (v : SV) : Prop where
 bok : Book W bk B1
 num : B1.n = m
 vs : B1.vs = B.vs
 vl : B1.vl = B.vl
 ss : B1.ss = B.ss
 ls : B1.ls = B.ls
 ent : ∀ p ∈ B1.aa, p ∈ B.aa ∨ p.2 = m ∧ ∀ g, p.1.blk = some g → v.blk = some g ∨ w.heap.size ≤ g
 vab : ∀ g, B1.va.blk = some g → B.va.blk = some g ∨ w.heap.size ≤ g
 kept : Kept (fun g => g = bk ∨ B.va.blk = some g ∨ v.blk = some g) w W
 xc : CellsAt W w.heap.size 0 (cA m)
 xt : ∃ cur, W.heap[w.heap.size]? = some (.cells cur 31 (0, 0))
theorem Ta.keep {w W W' : World} {bk m : Nat} {B B1 : Bk} {v : SV} (h : Ta w W bk m B B1 v) (hb : Below W.heap.size W W') : Ta w W' bk m B B1 v :=
 ⟨h.bok.below hb, h.num, h.vs, h.vl, h.ss, h.ls, h.ent, h.vab, h.kept.trans (kept_below hb) (fun _ _ h => h) (fun g h1 h2 => by have := h.kept.size; omega), h.xc.below hb, by
  obtain ⟨c, hc⟩ := h.xt
  exact ⟨c, (hb.block _ (Array.getElem?_eq_some_iff.1 hc).1).trans hc⟩⟩
theorem Ta.row {w W W3 : World} {bk m : Nat} {B B1 : Bk} {v : SV} (h : Ta w W bk m B B1 v) {r : Option Nat} (hg : W.grownBy W3 r) (hr : ∀ g, r = some g → ∃ cur, W.heap[g]? = some (.cells cur 31 (0, 0))) (hx : ∀ g, r = some g → g ≠ w.heap.size) (hv : ∀ g, r = some g → v.blk = some g ∨ w.heap.size ≤ g) (hs : ∀ p ∈ B1.aa, ∀ g, p.1.blk = some g → r = some g → RowAt W3 31 (cA p.2) p.1) : Ta w W3 bk m B B1 v := by
 obtain ⟨c, hc⟩ := h.xt
 have hlt := (Array.getElem?_eq_some_iff.1 hc).1
 refine ⟨h.bok.rowA hg hr hs, h.num, h.vs, h.vl, h.ss, h.ls, h.ent, h.vab, h.kept.trans (kept_grown hg) (fun _ _ h => h) (fun g h1 h2 => ?_), fun j u hj => ?_, c, ?_⟩
 ·rcases hv g h2 with h3 | h3
  ·exact .inr (.inr h3)
  ·omega
 ·exact (hg.cell_far ⟨w.heap.size, 0 + j, none⟩ hlt (fun e => hx _ e.symm rfl)).trans (h.xc j u hj)
 ·exact (hg.block _ hlt (fun e => hx _ e.symm rfl)).trans hc
/-- the lists of the first k accounts are in the book -/
structure Tl (w W : World) (bk : Nat) (C B1 : Bk) (v : SV) (l : List (AccD × SV)) (k : Nat) : Prop where
 bok : Book W bk B1
 num : B1.n = C.n + k
 va : B1.va = C.va
 vl : B1.vl = C.vl
 aa : B1.aa = C.aa
 ls : B1.ls = C.ls
 slen : B1.ss.length = C.ss.length + 4 * k
 ent : ∀ p ∈ B1.ss, p ∈ C.ss ∨ ∀ g, p.1.blk = some g → (∃ q ∈ l.take k, q.2.blk = some g) ∨ w.heap.size ≤ g
 vsb : ∀ g, B1.vs.blk = some g → C.vs.blk = some g ∨ w.heap.size ≤ g
 kept : Kept (fun g => g = bk ∨ C.vs.blk = some g ∨ ∃ q ∈ l, q.2.blk = some g) w W
 own : W.ownsRow 0 31 8 (.slice v.a v.n v.c) l.length (flatA l)
 sl : ∀ p ∈ l.drop k, W.ownsRow 0 57 8 (.slice p.2.a p.2.n p.2.c) p.1.slots.length (flatS p.1.slots)
theorem Tl.start {w : World} {bk : Nat} {C : Bk} {v : SV} {l : List (AccD × SV)} (hC : Book w bk C) (hL : Lists 0 w v l) : Tl w w bk C C v l 0 :=
 ⟨hC, rfl, rfl, rfl, rfl, rfl, rfl, fun p hp => .inl hp, fun g e => .inl e, Kept.refl _ _, hL.own, fun p hp => hL.sl p (by simpa using hp)⟩
theorem drop_mem {α : Type} {l : List α} {k : Nat} (hk : k < l.length) {p : α} (hp : p ∈ l.drop (k + 1)) : p ∈ l.drop k := by
 rw [List.drop_eq_getElem_cons hk]; exact List.mem_cons_of_mem _ hp
theorem Tl.fresh {w W : World} {bk : Nat} {C B1 : Bk} {v : SV} {l : List (AccD × SV)} {k : Nat} (h : Tl w W bk C B1 v l k) (hk : k < l.length) (hL : Lists 0 w v l) (_hC : Book w bk C) (hf2 : ∀ q ∈ l, ∀ p ∈ C.ss, ∀ g, q.2.blk = some g → p.1.blk ≠ some g) : ∀ p ∈ B1.ss, ∀ g, l[k].2.blk = some g → p.1.blk ≠ some g := fun p hp g e1 e2 => by
 rcases h.ent p hp with h1 | h1
 ·exact hf2 _ (List.getElem_mem hk) p h1 g e1 e2
 ·rcases h1 g e2 with ⟨q, hq, h2⟩ | h2
  ·obtain ⟨i, hi, rfl⟩ := List.mem_iff_getElem.1 hq
   have hik : i < k := by simp at hi; omega
   rw [List.getElem_take] at h2
   exact List.pairwise_iff_getElem.1 hL.apart i k (by omega) hk hik g h2 e1
  ·have := own_lt (hL.sl _ (List.getElem_mem hk)) g e1
   omega
theorem Tl.step {w W W' : World} {bk : Nat} {C B1 B2 : Bk} {v : SV} {l : List (AccD × SV)} {k : Nat} (h : Tl w W bk C B1 v l k) (hk : k < l.length) (hL : Lists 0 w v l) (hT : Tk W W' bk (B1.n + 1) B1 B2 l[k].2) (hlen : B2.ss.length = B1.ss.length + 4) : Tl w W' bk C B2 v l (k + 1) := by
 have hsz := h.kept.size
 have hobj : ∃ cur, W.heap[bk]? = some (.cells cur 37 (0, 0)) := ⟨_, h.bok.obj⟩
 have same : ∀ g, g < W.heap.size → g ≠ bk → B1.vs.blk ≠ some g → l[k].2.blk ≠ some g → W'.heap[g]? = W.heap[g]? := fun g h1 h2 h3 h4 => hT.kept.block g h1 (fun x => x.elim h2 fun y => y.elim h3 h4)
 have hsk := h.sl l[k] (by rw [List.mem_iff_getElem]; exact ⟨0, by simp; omega, by simp⟩)
 refine ⟨hT.bok, by have := hT.num; have := h.num; omega, hT.va.trans h.va, hT.vl.trans h.vl, hT.aa.trans h.aa, hT.ls.trans h.ls, by have := h.slen; omega, fun p hp => ?_, fun g e => ?_, ?_, ?_, fun p hp => ?_⟩
 ·rcases hT.ent p hp with h1 | ⟨_, h1⟩
  ·rcases h.ent p h1 with h2 | h2
   ·exact .inl h2
   ·refine .inr fun g e => (h2 g e).imp (fun ⟨q, hq, hb⟩ => ⟨q, ?_, hb⟩) id
    exact List.mem_of_mem_take (i := k) (by rw [List.take_take, Nat.min_eq_left (by omega)]; exact hq)
  ·refine .inr fun g e => ?_
   rcases h1 g e with h2 | h2
   ·refine .inl ⟨l[k], ?_, h2⟩
    rw [List.mem_iff_getElem]
    exact ⟨k, by simp; omega, by simp⟩
   ·exact .inr (by omega)
 ·rcases hT.vsb g e with h1 | h1
  ·exact h.vsb g h1
  ·exact .inr (by omega)
 ·refine h.kept.trans hT.kept (fun _ _ x => x) (fun g h1 x => ?_)
  rcases x with x | x | x
  ·exact .inl x
  ·rcases h.vsb g x with h2 | h2
   ·exact .inr (.inl h2)
   ·omega
  ·exact .inr (.inr ⟨_, List.getElem_mem hk, x⟩)
 ·exact own_same h.own fun g e => same g (own_lt h.own g e) (type_ne (own_type h.own g e) hobj (by decide)) (fun e2 => type_ne (own_type h.own g e) (own_type h.bok.os g e2) (by decide) rfl) (fun e2 => type_ne (own_type h.own g e) (own_type hsk g e2) (by decide) rfl)
 ·have hp' := h.sl p (drop_mem hk hp)
  refine own_same hp' fun g e => same g (own_lt hp' g e) (type_ne (own_type hp' g e) hobj (by decide)) (fun e2 => type_ne (own_type hp' g e) (own_type h.bok.os g e2) (by decide) rfl) (fun e2 => ?_)
  obtain ⟨i, hi, rfl⟩ := List.mem_iff_getElem.1 hp
  rw [List.getElem_drop] at e
  exact List.pairwise_iff_getElem.1 hL.apart k (k + 1 + i) hk (by simp at hi; omega) (by omega) g e2 e
/-- a list of accounts came out and was written over: the book bears it -/
structure TakenA (w W : World) (bk : Nat) (C : Bk) (v : SV) (l : List (AccD × SV)) : Prop where
 ex : ∃ B', Book W bk B' ∧ B'.n = C.n + l.length + 1 ∧ B'.vl = C.vl ∧ B'.ls = C.ls ∧ B'.aa.length = C.aa.length + 4 ∧ B'.ss.length = C.ss.length + 4 * l.length ∧
   (∀ g, B'.uses bk g → C.uses bk g ∨ v.blk = some g ∨ (∃ q ∈ l, q.2.blk = some g) ∨ w.heap.size ≤ g) ∧ Kept (fun g => C.uses bk g ∨ v.blk = some g ∨ ∃ q ∈ l, q.2.blk = some g) w W
theorem Tl.done {w W0 W : World} {bk : Nat} {C B B1 : Bk} {v : SV} {l : List (AccD × SV)} (h : Tl w W0 bk C B v l l.length) (hT : Ta W0 W bk (B.n + 1) B B1 v) (hlen : B1.aa.length = B.aa.length + 4) :
  TakenA w W bk C v l := by
 have hsz := h.kept.size
 refine ⟨B1, hT.bok, by have := hT.num; have := h.num; omega, hT.vl.trans h.vl, hT.ls.trans h.ls, by rw [hlen, h.aa], by rw [hT.ss, h.slen], fun g hg => ?_, ?_⟩
 ·rcases hg with hg | hg | hg | hg | ⟨p, hp, hg⟩ | ⟨p, hp, hg⟩
  ·exact .inl (.inl hg)
  ·rcases hT.vab g hg with h1 | h1
   ·rw [h.va] at h1; exact .inl (.inr (.inl h1))
   ·exact .inr (.inr (.inr (by omega)))
  ·rw [hT.vs] at hg
   rcases h.vsb g hg with h1 | h1
   ·exact .inl (.inr (.inr (.inl h1)))
   ·exact .inr (.inr (.inr h1))
  ·rw [hT.vl, h.vl] at hg
   exact .inl (.inr (.inr (.inr (.inl hg))))
  ·rcases hT.ent p hp with h1 | ⟨_, h1⟩
   ·rw [h.aa] at h1
    exact .inl (.inr (.inr (.inr (.inr (.inl ⟨p, h1, hg⟩)))))
   ·rcases h1 g hg with h2 | h2
    ·exact .inr (.inl h2)
    ·exact .inr (.inr (.inr (by omega)))
  ·rw [hT.ss] at hp
   rcases h.ent p hp with h1 | h1
   ·exact .inl (.inr (.inr (.inr (.inr (.inr ⟨p, h1, hg⟩)))))
   ·rcases h1 g hg with ⟨q, hq, h2⟩ | h2
    ·exact .inr (.inr (.inl ⟨q, List.mem_of_mem_take hq, h2⟩))
    ·exact .inr (.inr (.inr h2))
 ·refine h.kept.trans hT.kept (fun g _ x => ?_) (fun g h1 x => ?_)
  ·rcases x with x | x | x
   ·exact .inl (.inl x)
   ·exact .inl (.inr (.inr (.inl x)))
   ·exact .inr (.inr x)
  ·rcases x with x | x | x
   ·exact .inl (.inl x)
   ·rw [h.va] at x; exact .inl (.inr (.inl x))
   ·exact .inr (.inl x)
theorem fillA (l : List (AccD × SV)) (x : AccD × SV) (i : Nat) (hi : i < l.length) : (List.replicate i x ++ l.drop i).set i x = List.replicate (i + 1) x ++ l.drop (i + 1) := by
 rw [List.set_append_right _ _ (by simp), List.length_replicate, Nat.sub_self, List.drop_eq_getElem_cons hi, List.set_cons_zero, List.replicate_succ', List.append_assoc]
 rfl
theorem repA (x : AccD × SV) (n : Nat) : ∀ i j : Nat, i < n → j < 8 → (flatA (List.replicate n x))[i * 8 + j]? = (accCells x.1 x.2)[j]? := fun i j hi hj => flatA_at _ i x (by rw [List.getElem?_replicate, if_pos hi]) j hj
set_option maxRecDepth 100000 in
set_option maxHeartbeats 8000000 in
theorem takeAccounts (C : Bk) (bk : Nat) (v : SV) (l : List (AccD × SV)) (w0 : World) (hC : Book w0 bk C) (hn0 : C.n < 100000000) (ha0 : C.aa.length < 100000000) (hs0 : C.ss.length < 100000000) (hL : Lists 0 w0 v l) (hl : l.length < 100000) (hls : ∀ p ∈ l, p.1.slots.length < 1000000) (hf1 : ∀ p ∈ C.aa, ∀ g, v.blk = some g → p.1.blk ≠ some g) (hf2 : ∀ q ∈ l, ∀ p ∈ C.ss, ∀ g, q.2.blk = some g → p.1.blk ≠ some g) :
  Calls TryQ.prog 15 #[.pointer (some ⟨bk, 0, none⟩), .slice v.a v.n v.c] w0 fun e w' => e = .returned (.tuple #[]) ∧ TakenA w0 w' bk C v l := by
 obtain ⟨i31, z31, hi31, hz31, hs31, hb31, hzs31⟩ := info31
 obtain ⟨i60, z60, hi60, hz60, hs60, hb60, hzs60⟩ := info60
 have hv0 : l.length = v.n := by
  rcases hL.own.2 with ⟨h1, h2⟩ | ⟨g, cap, cur, h1, _⟩
  ·simp only [Value.slice.injEq] at h1; omega
  ·simp only [Value.slice.injEq] at h1; exact h1.2.1.symm
 go_enter TryQ.func15, Tryz.ntmps15
 go_wp2_with fail
 go_loopw [4] (fun i W => ∃ (k : Nat) (B1 : Bk), i = .int .i64 k ∧ k ≤ v.n ∧ Tl w0 W bk C B1 v l k) (fun i _ => v.n - (Go.RowKit.intOf i).toNat)
 case atStart => exact ⟨0, C, rfl, Nat.zero_le _, Tl.start hC hL⟩
 case round =>
  obtain ⟨k, B, rfl, hk, hQ⟩ := hrel
  by_cases hlt : k < v.n
  ·have hlt' : (k : Int) < (v.n : Int) := by omega
   have hlt2 : k < l.length := by omega
   have hk1 := List.getElem?_eq_getElem hlt2
   have hmem := List.getElem_mem hlt2
   have hown := hQ.own
   obtain ⟨g, cap, he, _, _⟩ := hown.form (by omega)
   have hva : v.a = some ⟨g, 0, none⟩ := by simp only [Value.slice.injEq] at he; exact he.1
   rw [hv0, hva] at hown
   have h8 := own_acc hown hk1
   have c7 := h8 7 _ rfl
   have hsk := hQ.sl l[k] (by rw [List.mem_iff_getElem]; exact ⟨0, by simp; omega, by simp⟩)
   have hts := takeSlots B bk l[k].2 l[k].1.slots wr hQ.bok (by have := hQ.num; omega) (by have := hQ.slen; omega) hsk (by have := hls _ hmem; omega) (hQ.fresh hlt2 hL hC hf2)
   clear h8 hown
   go_wp2_with fail
   refine hts.mono ?_
   rintro e w1 ⟨B2, rfl, hT, hlen⟩
   go_wp2_with fail
   rw [← hva]
   go_roundw
   case rel => exact ⟨k + 1, B2, by go_num, by omega, hQ.step hlt2 hL hT hlen⟩
   case measure => simp [Go.RowKit.intOf]; omega
  ·have hk' : k = v.n := by omega
   rw [hk', ← hv0] at hQ
   have hB := hQ.bok
   have hn : B.n < 1000000000 := by have := hQ.num; omega
   have hss : B.aa.length < 1000000000 := by rw [hQ.aa]; omega
   have ho := hQ.own
   have hf : ∀ p ∈ B.aa, ∀ g, v.blk = some g → p.1.blk ≠ some g := by rw [hQ.aa]; exact hf1
   have hdone := fun (W : World) (B1 : Bk) => hQ.done (W := W) (B1 := B1)
   subst hk'
   generalize wr = w at *
   have hvn : l.length = v.n := by
    rcases ho.2 with ⟨h1, h2⟩ | ⟨g, cap, cur, h1, _⟩
    ·simp only [Value.slice.injEq] at h1; omega
    ·simp only [Value.slice.injEq] at h1; exact h1.2.1.symm
   obtain ⟨m, hm⟩ : ∃ m, B.n + 1 = m := ⟨_, rfl⟩
   have hmi : ((B.n : Nat) : Int) + 1 = (m : Int) := by omega
   have hwm : IntKind.i64.wrap (-(m : Int)) = -(m : Int) := IntWalk.i64_in _ (by omega)
   have hcm := acc_num m
   have hbl := hB.lt bk (.inl rfl)
   -- the number is counted up
   have hB0 : Book (w.setCell ⟨bk, 0, none⟩ (.int .i64 (m : Int))) bk { B with n := m } := by
    have tb : ∃ cur, w.heap[bk]? = some (.cells cur 37 (0, 0)) := ⟨_, hB.obj⟩
    have same : ∀ g', g' ≠ bk → (w.setCell ⟨bk, 0, none⟩ (.int .i64 (m : Int))).heap[g']? = w.heap[g']? := fun g' h2 => heap_setCell_other w ⟨bk, 0, none⟩ g' _ h2
    refine ⟨?_, ?_, ?_, ?_, ?_, ?_, hB.ln, fun p hp => by have := hB.nb p hp; show p.2 ≤ m; omega⟩
    ·rw [heap_setCell_same w bk 0 _ 37 _ hB.obj]; rfl
    ·exact own_same hB.oa fun g' e => same g' (type_ne (own_type hB.oa g' e) tb (by decide))
    ·exact own_same hB.os fun g' e => same g' (type_ne (own_type hB.os g' e) tb (by decide))
    ·exact own_same hB.ol fun g' e => same g' (type_ne (own_type hB.ol g' e) tb (by decide))
    ·exact fun p hp => (hB.ra p hp).same fun g' e => same g' (type_ne ((hB.ra p hp).lt g' e).2 tb (by decide))
    ·exact fun p hp => (hB.rs p hp).same fun g' e => same g' (type_ne ((hB.rs p hp).lt g' e).2 tb (by decide))
   have ho0 : (w.setCell ⟨bk, 0, none⟩ (.int .i64 (m : Int))).ownsRow 0 31 8 (.slice v.a v.n v.c) l.length (flatA l) := own_same ho fun g' e => heap_setCell_other w ⟨bk, 0, none⟩ g' _ (type_ne (own_type ho g' e) ⟨_, hB.obj⟩ (by decide))
   have hk0 := kept_setCell w ⟨bk, 0, none⟩ (.int .i64 (m : Int))
   have hsz0 : (w.setCell ⟨bk, 0, none⟩ (.int .i64 (m : Int))).heap.size = w.heap.size := by simp
   have x0 := hB.cells 0 _ rfl
   have y0 := hB.fz 0
   rw [Nat.zero_add] at x0
   go_upto_region 5 with fail
   clear x0 y0
   have x0 := hB0.cells 0 _ rfl
   rw [Nat.zero_add] at x0
   generalize w.setCell ⟨bk, 0, none⟩ (.int .i64 (m : Int)) = W0 at hB0 ho0 hk0 hsz0 x0 ⊢
   have hb1 : Below W0.heap.size W0 (W0.alloc (.cells (cA m).toArray 31)) := (Below.refl _ _).alloc (Nat.le_refl _) _
   obtain ⟨B1, hB1⟩ : ∃ B1 : Bk, B1 = { B with n := m } := ⟨_, rfl⟩
   have hT1 : Ta w (W0.alloc (.cells (cA m).toArray 31)) bk m B B1 v := by
    subst hB1
    refine ⟨hB0.below hb1, rfl, rfl, rfl, rfl, rfl, fun p hp => .inl hp, fun g hg => .inl hg, (hk0.trans (kept_below hb1) (fun _ _ e => .inl e) (fun g h1 h2 => by omega)), ?_, ?_⟩
    ·rw [← hsz0]; exact cells_new W0 (cA m) 31
    ·rw [← hsz0]; exact ⟨_, heap_alloc_new W0 _⟩
   have ho1 := own_below ho0 hb1
   have hss1 : Shut (B1.aa = B.aa) := by rw [hB1]; exact rfl
   clear hB1
   go_wp2_with fail
   rw [hcm] at hT1 ho1
   generalize W0.alloc _ = W1 at hT1 ho1 ⊢
   clear hb1 hB0 ho0 hk0 hsz0 x0 W0
   go_loopw [6] (fun i W => ∃ k : Nat, i = .int .i64 k ∧ k ≤ v.n ∧ Ta w W bk m B B1 v ∧ W.ownsRow 0 31 8 (.slice v.a v.n v.c) v.n (flatA (List.replicate k (xA m) ++ l.drop k))) (fun i _ => v.n - (Go.RowKit.intOf i).toNat)
   case atStart => exact ⟨0, rfl, Nat.zero_le _, hT1, by rw [hvn] at ho1; exact ho1⟩
   case round =>
    obtain ⟨k, rfl, hk, hT, hoW⟩ := hrel
    clear hT1 ho1
    by_cases hlt : k < v.n
    ·have hlt' : (k : Int) < (v.n : Int) := by omega
     have hlt2 : k < l.length := by omega
     obtain ⟨va, vn, vc⟩ := v
     obtain ⟨g, cap, he, _, _⟩ := hoW.form (by omega)
     simp only [Value.slice.injEq] at he
     simp only at hvn hlt hlt' hk
     obtain ⟨rfl, _, rfl⟩ := he
     have h1 := own_put (cA m) wr _ (k * 8) hoW
     rw [flatA_put _ k (xA m) (by simp; omega), fillA l (xA m) k hlt2] at h1
     have hgw : g < w.heap.size := own_lt ho g rfl
     have hT2 := hT.row h1.2 (fun g' e => by cases e; exact own_type hoW g rfl) (fun g' e => by cases e; omega) (fun g' e => .inl e) (fun p hp g' e1 e2 => absurd e1 (hf p (by rw [← hss1.out]; exact hp) g' e2))
     have t8 := own_there hoW (o := k * 8) (m := 8) (by show k * 8 + 8 ≤ vn * 8; omega)
     have hx := hT.xc
     have x0 := hx 0 _ rfl
     have x1 := hx 1 _ rfl
     have x2 := hx 2 _ rfl
     have x3 := hx 3 _ rfl
     have x4 := hx 4 _ rfl
     have x5 := hx 5 _ rfl
     have x6 := hx 6 _ rfl
     have x7 := hx 7 _ rfl
     simp only [Nat.zero_add] at x0 x1 x2 x3 x4 x5 x6 x7
     obtain ⟨v0, z0⟩ := Option.isSome_iff_exists.1 (t8 0 (by omega)).1
     have f0 := (t8 0 (by omega)).2
     obtain ⟨v1, z1⟩ := Option.isSome_iff_exists.1 (t8 1 (by omega)).1
     have f1 := (t8 1 (by omega)).2
     obtain ⟨v2, z2⟩ := Option.isSome_iff_exists.1 (t8 2 (by omega)).1
     have f2 := (t8 2 (by omega)).2
     obtain ⟨v3, z3⟩ := Option.isSome_iff_exists.1 (t8 3 (by omega)).1
     have f3 := (t8 3 (by omega)).2
     obtain ⟨v4, z4⟩ := Option.isSome_iff_exists.1 (t8 4 (by omega)).1
     have f4 := (t8 4 (by omega)).2
     obtain ⟨v5, z5⟩ := Option.isSome_iff_exists.1 (t8 5 (by omega)).1
     have f5 := (t8 5 (by omega)).2
     obtain ⟨v6, z6⟩ := Option.isSome_iff_exists.1 (t8 6 (by omega)).1
     have f6 := (t8 6 (by omega)).2
     obtain ⟨v7, z7⟩ := Option.isSome_iff_exists.1 (t8 7 (by omega)).1
     have f7 := (t8 7 (by omega)).2
     rw [Nat.add_zero] at z0 f0
     clear hx t8
     go_wp2_with fail
     refine ⟨⟨k + 1, by go_num, by omega, hT2, h1.1⟩, ?_⟩
     simp [Go.RowKit.intOf]; omega
    ·have hk' : k = v.n := by omega
     subst hk'
     rw [← hvn, List.drop_length, List.append_nil, hvn] at hoW
     have hcv : wr.ownsRow 0 31 8 (.slice v.a v.n v.c) v.n (flatA (List.replicate v.n (xA m))) := hoW
     have hcb : ∀ g, v.blk = some g → v.blk = some g ∨ w.heap.size ≤ g := fun g e => .inl e
     have hss2 : B1.aa.length < 1000000000 := by rw [hss1.out]; exact hss
     go_wp2_with fail
     obtain ⟨zB, hzB⟩ : ∃ zB, wr.drew.heap.size = zB := ⟨_, rfl⟩
     refine wp_meet2 (fun g n W => Ta w W bk m B { B1 with va := ⟨some ⟨g, 0, none⟩, B1.aa.length + 1, n⟩, aa := B1.aa ++ [(v, m)] } v ∧ W.ownsRow 0 31 8 (.slice v.a v.n v.c) v.n (flatA (List.replicate v.n (xA m)))) ?_
     apply Exists.intro
     apply And.intro
     ·have x0 := hT.bok.cells 0 _ rfl
      rw [Nat.zero_add, hT.num] at x0
      refine wp_region_held_drew (S := fun W => W.cell? ⟨bk, 0, none⟩ = some (.int .i64 (m : Int))) (by kernel_rfl) x0 (fun hH => ?_)
      clear x0
      refine take_d (i := 0) (d := some 45) (v := .pointer (some ⟨bk, 0, none⟩)) rfl rfl (by kernel_rfl) (by kernel_rfl) (by kernel_rfl) (fun _ _ _ h => by first | exact h | cases h.1) (Or.inl ⟨by rfl, fun W hW => ?_⟩) hH ?_
      ·clear hW hH
       go_simp
      simp only [Act.put, List.setIfInBounds_toArray, List.set_cons_zero, List.set_cons_succ]
      refine take_d (i := 1) (d := some 46) (v := .pointer (some ⟨bk, 0, none⟩)) rfl rfl (by kernel_rfl) (by kernel_rfl) (by kernel_rfl) (fun _ _ _ h => by first | exact h | cases h.1) (Or.inl ⟨by rfl, fun W hW => ?_⟩) hH ?_
      ·clear hW hH
       go_simp
      simp only [Act.put, List.setIfInBounds_toArray, List.set_cons_zero, List.set_cons_succ]
      refine take_d (i := 2) (d := some 47) (v := .pointer (some ⟨bk, 0, none⟩)) rfl rfl (by kernel_rfl) (by kernel_rfl) (by kernel_rfl) (fun _ _ _ h => by first | exact h | cases h.1) (Or.inl ⟨by rfl, fun W hW => ?_⟩) hH ?_
      ·clear hW hH
       go_simp
      simp only [Act.put, List.setIfInBounds_toArray, List.set_cons_zero, List.set_cons_succ]
      refine take_d (i := 3) (d := some 48) (v := .pointer (some ⟨bk, 1, none⟩)) rfl rfl (by kernel_rfl) (by kernel_rfl) (by kernel_rfl) (fun _ _ _ h => by first | exact h | cases h.1) (Or.inl ⟨by rfl, fun W hW => ?_⟩) hH ?_
      ·clear hW hH
       go_simp
      simp only [Act.put, List.setIfInBounds_toArray, List.set_cons_zero, List.set_cons_succ]
      refine take_d (i := 5) (d := some 50) (v := .slice v.a v.n v.c) rfl rfl (by kernel_rfl) (by kernel_rfl) (by kernel_rfl) (fun _ _ _ h => by first | exact h | cases h.1) (Or.inl ⟨by rfl, fun W hW => ?_⟩) hH ?_
      ·clear hW hH
       go_simp
      simp only [Act.put, List.setIfInBounds_toArray, List.set_cons_zero, List.set_cons_succ]
      refine take_d (i := 6) (d := some 51) (v := .pointer (some ⟨bk, 0, none⟩)) rfl rfl (by kernel_rfl) (by kernel_rfl) (by kernel_rfl) (fun _ _ _ h => by first | exact h | cases h.1) (Or.inl ⟨by rfl, fun W hW => ?_⟩) hH ?_
      ·clear hW hH
       go_simp
      simp only [Act.put, List.setIfInBounds_toArray, List.set_cons_zero, List.set_cons_succ]
      refine take_d (i := 7) (d := some 52) (v := .pointer (some ⟨bk, 0, none⟩)) rfl rfl (by kernel_rfl) (by kernel_rfl) (by kernel_rfl) (fun _ _ _ h => by first | exact h | cases h.1) (Or.inl ⟨by rfl, fun W hW => ?_⟩) hH ?_
      ·clear hW hH
       go_simp
      simp only [Act.put, List.setIfInBounds_toArray, List.set_cons_zero, List.set_cons_succ]
      refine take_d (i := 8) (d := some 53) (v := .pointer (some ⟨bk, 0, none⟩)) rfl rfl (by kernel_rfl) (by kernel_rfl) (by kernel_rfl) (fun _ _ _ h => by first | exact h | cases h.1) (Or.inl ⟨by rfl, fun W hW => ?_⟩) hH ?_
      ·clear hW hH
       go_simp
      simp only [Act.put, List.setIfInBounds_toArray, List.set_cons_zero, List.set_cons_succ]
      refine take_d (i := 9) (d := some 54) (v := .int .i64 (m : Int)) rfl rfl (by kernel_rfl) (by kernel_rfl) (by kernel_rfl) (fun _ _ _ h => by first | exact h | cases h.1) (Or.inl ⟨by rfl, fun W hW => ?_⟩) hH ?_
      ·have k0 : W.cell? ⟨bk, 0, none⟩ = some (.int .i64 (m : Int)) := hW
       clear hW hH
       go_simp
      simp only [Act.put, List.setIfInBounds_toArray, List.set_cons_zero, List.set_cons_succ]
      refine take_d (i := 10) (d := some 55) (v := .int .i64 (-(m : Int))) rfl rfl (by kernel_rfl) (by kernel_rfl) (by kernel_rfl) (fun _ _ _ h => by first | exact h | cases h.1) (Or.inl ⟨by rfl, fun W hW => ?_⟩) hH ?_
      ·clear hW hH
       go_simp
      simp only [Act.put, List.setIfInBounds_toArray, List.set_cons_zero, List.set_cons_succ]
      refine take_d (i := 11) (d := some 56) (v := .agg #[.slice v.a v.n v.c, .int .i64 (-(m : Int))]) rfl rfl (by kernel_rfl) (by kernel_rfl) (by kernel_rfl) (fun _ _ _ h => by first | exact h | cases h.1) (Or.inl ⟨by rfl, fun W hW => ?_⟩) hH ?_
      ·clear hW hH
       go_simp
      simp only [Act.put, List.setIfInBounds_toArray, List.set_cons_zero, List.set_cons_succ]
      have hx1 := hT.keep (Below.refl _ _).drew
      have hcv1 : wr.drew.ownsRow 0 31 8 (.slice v.a v.n v.c) v.n (flatA (List.replicate v.n (xA m))) := own_below hcv (Below.refl _ _).drew
      have hzC := hzB
      generalize wr.drew = W1 at hx1 hcv1 hH hzC ⊢
      refine wpAnyH_ready (rs := [4, 12]) (by kernel_rfl) (by simp) ?_
      refine AllReadyH.cons rfl (fun K hK => ?_) (AllReadyH.cons rfl (fun K hK => ?_) AllReadyH.nil)
      ·skip
       have x2 := hx1.bok.cells 1 _ rfl
       rw [Nat.zero_add] at x2
       go_simp
       clear x2
       refine hK.out _ _ hH (fun hH => ?_)
       clear hK K
       refine wpAnyH_ready (rs := [12]) (by kernel_rfl) (by simp) ?_
       refine AllReadyH.cons rfl (fun K hK => ?_) AllReadyH.nil
       go_simp
       have hb2 : Below W1.heap.size W1 (W1.alloc (.cells #[.slice v.a v.n v.c, .int .i64 (-(m : Int))] 60)) := (Below.refl _ _).alloc (Nat.le_refl _) _
       have hn2 := cells_new W1 [.slice v.a v.n v.c, .int .i64 (-(m : Int))] 60
       have hbk1 := hx1.bok.lt bk (.inl rfl)
       refine hK.out _ (W1.alloc (.cells #[.slice v.a v.n v.c, .int .i64 (-(m : Int))] 60)) ((hb2.cell (p := ⟨bk, 0, none⟩) hbk1).trans hH) (fun hH => ?_)
       clear hK K
       replace hx1 := hx1.keep hb2
       replace hcv1 := own_below hcv1 hb2
       generalize hW2 : W1.alloc (.cells #[.slice v.a v.n v.c, .int .i64 (-(m : Int))] 60) = W2 at hx1 hcv1 hn2 hb2 hH ⊢
       refine wpAnyH_ready (rs := [13]) (by kernel_rfl) (by simp) ?_
       refine AllReadyH.cons rfl (fun K hK => ?_) AllReadyH.nil
       rw [if_pos (by rfl)]
       refine wp_append_keep W2 _ _ 33 rfl 0 60 i60 z60 2 32 ((q_underlying 33).trans Tryz.underlying33) hi60 hz60 hs60 hb60 hzs60 (by omega) _ _ _ rfl hx1.bok.oa ⟨zB, 0, none⟩ 1 1 [.slice v.a v.n v.c, .int .i64 (-(m : Int))] rfl rfl (fun j v hj => by rw [Addr.add_mid, ← hzC]; exact hn2 j v hj) (fun v hv => by simp only [List.mem_cons, List.not_mem_nil, or_false] at hv; rcases hv with rfl | rfl <;> rfl) (by omega) (by simp [maxLen]; omega) (by omega) (Nat.zero_le _) _ rfl ?_
       intro g n W3 hown3 hgrow hat hlt3 hold3
       have hkb := hx1.bok.obj
       have hvab : ∀ g', B1.va.blk = some g' → g' ≠ bk := fun g' e => type_ne (own_type hx1.bok.oa g' e) ⟨_, hx1.bok.obj⟩ (by decide)
       have hbl : bk < W2.heap.size := (Array.getElem?_eq_some_iff.1 hx1.bok.obj).1
       have hbc : W3.heap[bk]? = W2.heap[bk]? := hgrow.block bk hbl (fun e => hvab bk e.symm rfl)
       have hc3 : W3.heap[bk]? = some (.cells (bkCells B1).toArray 37 (0, 0)) := hbc.trans hkb
       refine hK.out _ _ ((cell_of_row W3 bk 0 _ 37 (0, 0) hc3).trans ((cell_of_row W2 bk 0 _ 37 (0, 0) hkb).symm.trans hH)) (fun hH => ?_)
       clear hK K
       refine take_d (i := 14) (d := some 59) (v := .pointer (some ⟨bk, 0, none⟩)) rfl rfl (by kernel_rfl) (by kernel_rfl) (by kernel_rfl) (fun _ _ _ h => by first | exact h | cases h.1) (Or.inl ⟨by rfl, fun W hW => ?_⟩) hH ?_
       ·clear hW hH
        go_simp
       simp only [Act.put, List.setIfInBounds_toArray]
       refine take_d (i := 15) (d := some 60) (v := .pointer (some ⟨bk, 1, none⟩)) rfl rfl (by kernel_rfl) (by kernel_rfl) (by kernel_rfl) (fun _ _ _ h => by first | exact h | cases h.1) (Or.inl ⟨by rfl, fun W hW => ?_⟩) hH ?_
       ·clear hW hH
        go_simp
       simp only [Act.put]
       refine wpAnyH_ready (rs := [16]) (by kernel_rfl) (by simp) ?_
       refine AllReadyH.cons rfl (fun K hK => ?_) AllReadyH.nil
       have x2 : W3.cell? ⟨bk, 1, none⟩ = some (.slice B1.va.a B1.va.n B1.va.c) := (cell_of_row W3 bk 1 _ 37 (0, 0) hc3).trans rfl
       have y2 : W3.frozen? ⟨bk, 1, none⟩ = false := frozen_of_row W3 bk 1 _ 37 hc3
       go_simp
       clear x2 y2
       refine hK.out _ _ ((World.cell?_setCell_other _ _ _ _ (by intro e; have e' := congrArg Addr.off e; simp at e')).trans hH) (fun hH => ?_)
       clear hK K
       refine wpAnyH_done (by kernel_rfl) ?_ _
       have hpush := hx1.bok.pushA hgrow hown3 (row_of_own (xs := flatA (List.replicate v.n (xA m))) hcv1 (repA (xA m) v.n) rfl (Nat.le_refl _))
       have hk3 := kept_grown hgrow
       refine ⟨rfl, g, n, rfl, ⟨hpush, hx1.num, hx1.vs, hx1.vl, hx1.ss, hx1.ls, ?_, ?_, ?_, ?_, ?_⟩, ?_⟩
       ·intro p hp
        rcases List.mem_append.1 hp with hp | hp
        ·exact hx1.ent p hp
        ·rw [List.mem_singleton.1 hp]; exact .inr ⟨rfl, hcb⟩
       ·intro g' e
        cases e
        rcases hat with hat | hat
        ·exact hx1.vab g hat
        ·have := hx1.kept.size; exact .inr (by show w.heap.size ≤ g; omega)
       ·refine (hx1.kept.trans hk3 (fun _ _ h => h) ?_).trans (kept_setCell W3 ⟨bk, 1, none⟩ _) (fun _ _ h => h) (fun g' _ e => .inl e)
        intro g' h1 h2
        rcases hx1.vab g' h2 with h3 | h3
        ·exact .inr (.inl h3)
        ·omega
       ·have hwb : w.heap.size ≠ bk := type_ne hx1.xt ⟨_, hx1.bok.obj⟩ (by decide)
        intro j v hj
        rw [World.cell?_setCell_other _ _ _ _ (by intro e; have e' := congrArg Addr.block e; dsimp only at e'; omega)]
        refine (hgrow.cell_far ⟨w.heap.size, 0 + j, none⟩ ?_ ?_).trans (hx1.xc j v hj)
        ·obtain ⟨c, hc⟩ := hx1.xt
         exact (Array.getElem?_eq_some_iff.1 hc).1
        ·exact fun e => type_ne hx1.xt (own_type hx1.bok.oa _ e.symm) (by decide) rfl
       ·obtain ⟨c, hc⟩ := hx1.xt
        have hwb : w.heap.size ≠ bk := type_ne hx1.xt ⟨_, hx1.bok.obj⟩ (by decide)
        exact ⟨c, (heap_setCell_other W3 ⟨bk, 1, none⟩ _ _ hwb).trans ((hgrow.block _ (Array.getElem?_eq_some_iff.1 hc).1 (fun e => type_ne hx1.xt (own_type hx1.bok.oa _ e.symm) (by decide) rfl)).trans hc)⟩
       ·refine own_same hcv1 fun g' e => (heap_setCell_other W3 ⟨bk, 1, none⟩ g' _ ?_).trans (hgrow.block g' (own_lt hcv1 g' e) fun e2 => ?_)
        ·exact type_ne (own_type hcv1 g' e) ⟨_, hx1.bok.obj⟩ (by decide)
        ·exact type_ne (own_type hcv1 g' e) (own_type hx1.bok.oa g' e2.symm) (by decide) rfl
      ·skip
       go_simp
       have hb2 : Below W1.heap.size W1 (W1.alloc (.cells #[.slice v.a v.n v.c, .int .i64 (-(m : Int))] 60)) := (Below.refl _ _).alloc (Nat.le_refl _) _
       have hn2 := cells_new W1 [.slice v.a v.n v.c, .int .i64 (-(m : Int))] 60
       have hbk1 := hx1.bok.lt bk (.inl rfl)
       refine hK.out _ (W1.alloc (.cells #[.slice v.a v.n v.c, .int .i64 (-(m : Int))] 60)) ((hb2.cell (p := ⟨bk, 0, none⟩) hbk1).trans hH) (fun hH => ?_)
       clear hK K
       replace hx1 := hx1.keep hb2
       replace hcv1 := own_below hcv1 hb2
       generalize hW2 : W1.alloc (.cells #[.slice v.a v.n v.c, .int .i64 (-(m : Int))] 60) = W2 at hx1 hcv1 hn2 hb2 hH ⊢
       refine wpAnyH_ready (rs := [4]) (by kernel_rfl) (by simp) ?_
       refine AllReadyH.cons rfl (fun K hK => ?_) AllReadyH.nil
       have x2 := hx1.bok.cells 1 _ rfl
       rw [Nat.zero_add] at x2
       go_simp
       clear x2
       refine hK.out _ _ hH (fun hH => ?_)
       clear hK K
       refine wpAnyH_ready (rs := [13]) (by kernel_rfl) (by simp) ?_
       refine AllReadyH.cons rfl (fun K hK => ?_) AllReadyH.nil
       rw [if_pos (by rfl)]
       refine wp_append_keep W2 _ _ 33 rfl 0 60 i60 z60 2 32 ((q_underlying 33).trans Tryz.underlying33) hi60 hz60 hs60 hb60 hzs60 (by omega) _ _ _ rfl hx1.bok.oa ⟨zB, 0, none⟩ 1 1 [.slice v.a v.n v.c, .int .i64 (-(m : Int))] rfl rfl (fun j v hj => by rw [Addr.add_mid, ← hzC]; exact hn2 j v hj) (fun v hv => by simp only [List.mem_cons, List.not_mem_nil, or_false] at hv; rcases hv with rfl | rfl <;> rfl) (by omega) (by simp [maxLen]; omega) (by omega) (Nat.zero_le _) _ rfl ?_
       intro g n W3 hown3 hgrow hat hlt3 hold3
       have hkb := hx1.bok.obj
       have hvab : ∀ g', B1.va.blk = some g' → g' ≠ bk := fun g' e => type_ne (own_type hx1.bok.oa g' e) ⟨_, hx1.bok.obj⟩ (by decide)
       have hbl : bk < W2.heap.size := (Array.getElem?_eq_some_iff.1 hx1.bok.obj).1
       have hbc : W3.heap[bk]? = W2.heap[bk]? := hgrow.block bk hbl (fun e => hvab bk e.symm rfl)
       have hc3 : W3.heap[bk]? = some (.cells (bkCells B1).toArray 37 (0, 0)) := hbc.trans hkb
       refine hK.out _ _ ((cell_of_row W3 bk 0 _ 37 (0, 0) hc3).trans ((cell_of_row W2 bk 0 _ 37 (0, 0) hkb).symm.trans hH)) (fun hH => ?_)
       clear hK K
       refine take_d (i := 14) (d := some 59) (v := .pointer (some ⟨bk, 0, none⟩)) rfl rfl (by kernel_rfl) (by kernel_rfl) (by kernel_rfl) (fun _ _ _ h => by first | exact h | cases h.1) (Or.inl ⟨by rfl, fun W hW => ?_⟩) hH ?_
       ·clear hW hH
        go_simp
       simp only [Act.put, List.setIfInBounds_toArray]
       refine take_d (i := 15) (d := some 60) (v := .pointer (some ⟨bk, 1, none⟩)) rfl rfl (by kernel_rfl) (by kernel_rfl) (by kernel_rfl) (fun _ _ _ h => by first | exact h | cases h.1) (Or.inl ⟨by rfl, fun W hW => ?_⟩) hH ?_
       ·clear hW hH
        go_simp
       simp only [Act.put]
       refine wpAnyH_ready (rs := [16]) (by kernel_rfl) (by simp) ?_
       refine AllReadyH.cons rfl (fun K hK => ?_) AllReadyH.nil
       have x2 : W3.cell? ⟨bk, 1, none⟩ = some (.slice B1.va.a B1.va.n B1.va.c) := (cell_of_row W3 bk 1 _ 37 (0, 0) hc3).trans rfl
       have y2 : W3.frozen? ⟨bk, 1, none⟩ = false := frozen_of_row W3 bk 1 _ 37 hc3
       go_simp
       clear x2 y2
       refine hK.out _ _ ((World.cell?_setCell_other _ _ _ _ (by intro e; have e' := congrArg Addr.off e; simp at e')).trans hH) (fun hH => ?_)
       clear hK K
       refine wpAnyH_done (by kernel_rfl) ?_ _
       have hpush := hx1.bok.pushA hgrow hown3 (row_of_own (xs := flatA (List.replicate v.n (xA m))) hcv1 (repA (xA m) v.n) rfl (Nat.le_refl _))
       have hk3 := kept_grown hgrow
       refine ⟨rfl, g, n, rfl, ⟨hpush, hx1.num, hx1.vs, hx1.vl, hx1.ss, hx1.ls, ?_, ?_, ?_, ?_, ?_⟩, ?_⟩
       ·intro p hp
        rcases List.mem_append.1 hp with hp | hp
        ·exact hx1.ent p hp
        ·rw [List.mem_singleton.1 hp]; exact .inr ⟨rfl, hcb⟩
       ·intro g' e
        cases e
        rcases hat with hat | hat
        ·exact hx1.vab g hat
        ·have := hx1.kept.size; exact .inr (by show w.heap.size ≤ g; omega)
       ·refine (hx1.kept.trans hk3 (fun _ _ h => h) ?_).trans (kept_setCell W3 ⟨bk, 1, none⟩ _) (fun _ _ h => h) (fun g' _ e => .inl e)
        intro g' h1 h2
        rcases hx1.vab g' h2 with h3 | h3
        ·exact .inr (.inl h3)
        ·omega
       ·have hwb : w.heap.size ≠ bk := type_ne hx1.xt ⟨_, hx1.bok.obj⟩ (by decide)
        intro j v hj
        rw [World.cell?_setCell_other _ _ _ _ (by intro e; have e' := congrArg Addr.block e; dsimp only at e'; omega)]
        refine (hgrow.cell_far ⟨w.heap.size, 0 + j, none⟩ ?_ ?_).trans (hx1.xc j v hj)
        ·obtain ⟨c, hc⟩ := hx1.xt
         exact (Array.getElem?_eq_some_iff.1 hc).1
        ·exact fun e => type_ne hx1.xt (own_type hx1.bok.oa _ e.symm) (by decide) rfl
       ·obtain ⟨c, hc⟩ := hx1.xt
        have hwb : w.heap.size ≠ bk := type_ne hx1.xt ⟨_, hx1.bok.obj⟩ (by decide)
        exact ⟨c, (heap_setCell_other W3 ⟨bk, 1, none⟩ _ _ hwb).trans ((hgrow.block _ (Array.getElem?_eq_some_iff.1 hc).1 (fun e => type_ne hx1.xt (own_type hx1.bok.oa _ e.symm) (by decide) rfl)).trans hc)⟩
       ·refine own_same hcv1 fun g' e => (heap_setCell_other W3 ⟨bk, 1, none⟩ g' _ ?_).trans (hgrow.block g' (own_lt hcv1 g' e) fun e2 => ?_)
        ·exact type_ne (own_type hcv1 g' e) ⟨_, hx1.bok.obj⟩ (by decide)
        ·exact type_ne (own_type hcv1 g' e) (own_type hx1.bok.oa g' e2.symm) (by decide) rfl
     ·rintro g n W ⟨hT2, hcv2⟩
      clear hT hoW hcv hcb
      have hvw : ∀ g, v.blk = some g → g < w.heap.size := own_lt ho
      have hent : ∀ p ∈ B1.aa ++ [(v, m)], p ∈ B.aa ∨ p.1.n ≤ v.n := fun p hp => by
       rcases List.mem_append.1 hp with hp | hp
       ·rw [hss1.out] at hp; exact .inl hp
       ·rw [List.mem_singleton.1 hp]; exact .inr (Nat.le_refl _)
      have hlen2 : (B1.aa ++ [(v, m)]).length = B.aa.length + 1 := by rw [List.length_append, hss1.out]; rfl
      go_wp2_with fail
      generalize hB2 : ({ B1 with va := ⟨some ⟨g, 0, none⟩, B1.aa.length + 1, n⟩, aa := B1.aa ++ [(v, m)] } : Bk) = B2 at hT2
      have hs2 : B2.aa = B1.aa ++ [(v, m)] := by rw [← hB2]
      rw [← hs2] at hent hlen2
      clear hB2 hs2 hss1 hss2
      go_loopw [7, 8] (fun gv i W => ∃ (k : Nat) (cv : SV) (B1 : Bk), gv = .slice cv.a cv.n cv.c ∧ i = .int .i64 k ∧ k ≤ 3 ∧ cv.n = v.n + k ∧ B1.aa.length = B.aa.length + 1 + k ∧ Ta w W bk m B B1 v ∧ W.ownsRow 0 31 8 (.slice cv.a cv.n cv.c) cv.n (flatA (List.replicate cv.n (xA m))) ∧ (∀ g, cv.blk = some g → (v.blk = some g ∨ w.heap.size ≤ g) ∧ g ≠ w.heap.size) ∧ ∀ p ∈ B1.aa, p ∈ B.aa ∨ p.1.n ≤ cv.n) (fun _ i _ => 3 - (Go.RowKit.intOf i).toNat)
      case atStart => exact ⟨0, v, B2, rfl, rfl, by omega, rfl, hlen2, hT2, hcv2, fun g e => ⟨.inl e, by have := hvw g e; omega⟩, hent⟩
      case round =>
       clear hT2 hcv2 hent hlen2
       obtain ⟨k, cu, B1, rfl, rfl, hk3, hcn, hlen1, hT, hcv, hcb, hent⟩ := hrel
       by_cases hlt : k < 3
       ·have hlt' : (k : Int) < 3 := by omega
        have hx := hT.xc
        have x0 := hx 0 _ rfl
        have x1 := hx 1 _ rfl
        have x2 := hx 2 _ rfl
        have x3 := hx 3 _ rfl
        have x4 := hx 4 _ rfl
        have x5 := hx 5 _ rfl
        have x6 := hx 6 _ rfl
        have x7 := hx 7 _ rfl
        simp only [Nat.zero_add] at x0 x1 x2 x3 x4 x5 x6 x7
        have hb2 : Below wr.heap.size wr (wr.alloc (.cells (cA m).toArray 31)) := (Below.refl _ _).alloc (Nat.le_refl _) _
        have hT2 := hT.keep hb2
        have hcv2 := own_below hcv hb2
        have hn2 := cells_new wr (cA m) 31
        have hwx : w.heap.size < wr.heap.size := by
         obtain ⟨c, hc⟩ := hT.xt
         exact (Array.getElem?_eq_some_iff.1 hc).1
        have hcs : Shut (cu.n = v.n + k) := hcn
        have hls : Shut (B1.aa.length = B.aa.length + 1 + k) := hlen1
        have hcu : cu.n < 2000000000 := by omega
        have hss2 : B1.aa.length < 1000000010 := by omega
        clear hcn hlen1
        go_wp2_with (at_builtin; go_loud (refine wpList_append_keep _ (by rfl) _ _ 22 (by rfl) 0 31 i31 z31 8 88 ((q_underlying 22).trans Tryz.underlying22) hi31 hz31 hs31 hb31 hzs31 (by omega) (.slice cu.a cu.n cu.c) cu.n (flatA (List.replicate cu.n (xA m))) (by rfl) hcv2 ⟨wr.heap.size, 0, none⟩ 1 1 (cA m) (by rfl) rfl (fun j v hj => by rw [Addr.add_mid]; exact hn2 j v hj) (fun v hv => acc_one (accX m) ⟨none, 0, 0⟩ v hv) (by omega) (by simp [maxLen]; omega) (by omega) (Nat.zero_le _) (wr.heap.size + 1) (by simp) ?_))
        intro g n W3 hown3 hgrow hat hlt3 hold3
        have hT3 : Ta w W3 bk m B B1 v := by
         refine hT2.row hgrow (own_type hcv2) (fun g' e => (hcb g' e).2) (fun g' e => (hcb g' e).1) (fun p hp g' e1 e2 => ?_)
         rcases hT.ent p hp with h4 | ⟨h4, _⟩
         ·have h5 := ((hB.ra p h4).lt g' e1).1
          rcases (hcb g' e2).1 with h6 | h6
          ·exact absurd e1 (hf p h4 g' h6)
          ·omega
         ·rw [h4]
          rcases hent p hp with h5 | h5
          ·have h6 := ((hB.ra p h5).lt g' e1).1
           rcases (hcb g' e2).1 with h7 | h7
           ·exact absurd e1 (hf p h5 g' h7)
           ·omega
          ·refine row_of_own (u := cu) hold3 (repA (xA m) cu.n) ?_ h5
           have ha : ∀ (s : SV) (cells : List Value), RowAt wr 31 cells s → s.blk = some g' → s.a = some ⟨g', 0, none⟩ := fun s cells h h' => by
            rcases h with h | ⟨b, cur, h1, _⟩
            ·rw [SV.blk, h.1] at h'; cases h'
            ·rw [SV.blk, h1] at h'; cases h'; exact h1
           rw [ha p.1 _ (hT.bok.ra p hp) e1, ha cu _ (row_of_own (xs := flatA (List.replicate cu.n (xA m))) hcv (repA (xA m) cu.n) rfl (Nat.le_refl _)) e2]
        have hcv3 : W3.ownsRow 0 31 8 (.slice (some ⟨g, 0, none⟩) (cu.n + 1) n) (cu.n + 1) (flatA (List.replicate (cu.n + 1) (xA m))) := by
         rw [List.replicate_succ', flatA_append, flatA, flatA, List.append_nil]
         change W3.ownsRow 0 31 8 _ _ (_ ++ cA m)
         rw [hcm]
         exact hown3
        have hcb3 : ∀ g', (SV.mk (some ⟨g, 0, none⟩) (cu.n + 1) n).blk = some g' → (v.blk = some g' ∨ w.heap.size ≤ g') ∧ g' ≠ w.heap.size := fun g' e => by
         have e' : g = g' := Option.some.inj e
         subst e'
         rcases hat with hat | hat
         ·exact hcb g hat
         ·exact ⟨.inr (by omega), by omega⟩
        clear hT hcv hcb hT2 hcv2 hown3 hgrow hat hold3 hn2 hb2 hx x0 x1 x2 x3 x4 x5 x6 x7
        go_wp2_with fail
        obtain ⟨cv, hcvE⟩ : ∃ cv : SV, cv = ⟨some ⟨g, 0, none⟩, cu.n + 1, n⟩ := ⟨_, rfl⟩
        have hca : Value.slice (some ⟨g, 0, none⟩) (cu.n + 1) n = .slice cv.a cv.n cv.c := by rw [hcvE]
        have hcn : Shut (cv.n = cu.n + 1) := by rw [hcvE]; exact rfl
        rw [hca]
        have hT := hT3
        have hcv : W3.ownsRow 0 31 8 (.slice cv.a cv.n cv.c) cv.n (flatA (List.replicate cv.n (xA m))) := by rw [hcvE]; exact hcv3
        have hcbb : ∀ g', cv.blk = some g' → (v.blk = some g' ∨ w.heap.size ≤ g') ∧ g' ≠ w.heap.size := by rw [hcvE]; exact hcb3
        have hcb := fun g' e => (hcbb g' e).1
        clear hca hcvE hT3 hcv3 hcb3 hlt3
        obtain ⟨zB, hzB⟩ : ∃ zB, W3.drew.heap.size = zB := ⟨_, rfl⟩
        refine wp_meet2 (fun g n W => Ta w W bk m B { B1 with va := ⟨some ⟨g, 0, none⟩, B1.aa.length + 1, n⟩, aa := B1.aa ++ [(cv, m)] } v ∧ W.ownsRow 0 31 8 (.slice cv.a cv.n cv.c) cv.n (flatA (List.replicate cv.n (xA m)))) ?_
        apply Exists.intro
        apply And.intro
        ·have x0 := hT.bok.cells 0 _ rfl
         rw [Nat.zero_add, hT.num] at x0
         refine wp_region_held_drew (S := fun W => W.cell? ⟨bk, 0, none⟩ = some (.int .i64 (m : Int))) (by kernel_rfl) x0 (fun hH => ?_)
         clear x0
         refine take_d (i := 0) (d := some 70) (v := .pointer (some ⟨bk, 0, none⟩)) rfl rfl (by kernel_rfl) (by kernel_rfl) (by kernel_rfl) (fun _ _ _ h => by first | exact h | cases h.1) (Or.inl ⟨by rfl, fun W hW => ?_⟩) hH ?_
         ·clear hW hH
          go_simp
         simp only [Act.put, List.setIfInBounds_toArray, List.set_cons_zero, List.set_cons_succ]
         refine take_d (i := 1) (d := some 71) (v := .pointer (some ⟨bk, 0, none⟩)) rfl rfl (by kernel_rfl) (by kernel_rfl) (by kernel_rfl) (fun _ _ _ h => by first | exact h | cases h.1) (Or.inl ⟨by rfl, fun W hW => ?_⟩) hH ?_
         ·clear hW hH
          go_simp
         simp only [Act.put, List.setIfInBounds_toArray, List.set_cons_zero, List.set_cons_succ]
         refine take_d (i := 2) (d := some 72) (v := .pointer (some ⟨bk, 0, none⟩)) rfl rfl (by kernel_rfl) (by kernel_rfl) (by kernel_rfl) (fun _ _ _ h => by first | exact h | cases h.1) (Or.inl ⟨by rfl, fun W hW => ?_⟩) hH ?_
         ·clear hW hH
          go_simp
         simp only [Act.put, List.setIfInBounds_toArray, List.set_cons_zero, List.set_cons_succ]
         refine take_d (i := 3) (d := some 73) (v := .pointer (some ⟨bk, 1, none⟩)) rfl rfl (by kernel_rfl) (by kernel_rfl) (by kernel_rfl) (fun _ _ _ h => by first | exact h | cases h.1) (Or.inl ⟨by rfl, fun W hW => ?_⟩) hH ?_
         ·clear hW hH
          go_simp
         simp only [Act.put, List.setIfInBounds_toArray, List.set_cons_zero, List.set_cons_succ]
         refine take_d (i := 5) (d := some 75) (v := .slice cv.a cv.n cv.c) rfl rfl (by kernel_rfl) (by kernel_rfl) (by kernel_rfl) (fun _ _ _ h => by first | exact h | cases h.1) (Or.inl ⟨by rfl, fun W hW => ?_⟩) hH ?_
         ·clear hW hH
          go_simp
         simp only [Act.put, List.setIfInBounds_toArray, List.set_cons_zero, List.set_cons_succ]
         refine take_d (i := 6) (d := some 76) (v := .pointer (some ⟨bk, 0, none⟩)) rfl rfl (by kernel_rfl) (by kernel_rfl) (by kernel_rfl) (fun _ _ _ h => by first | exact h | cases h.1) (Or.inl ⟨by rfl, fun W hW => ?_⟩) hH ?_
         ·clear hW hH
          go_simp
         simp only [Act.put, List.setIfInBounds_toArray, List.set_cons_zero, List.set_cons_succ]
         refine take_d (i := 7) (d := some 77) (v := .pointer (some ⟨bk, 0, none⟩)) rfl rfl (by kernel_rfl) (by kernel_rfl) (by kernel_rfl) (fun _ _ _ h => by first | exact h | cases h.1) (Or.inl ⟨by rfl, fun W hW => ?_⟩) hH ?_
         ·clear hW hH
          go_simp
         simp only [Act.put, List.setIfInBounds_toArray, List.set_cons_zero, List.set_cons_succ]
         refine take_d (i := 8) (d := some 78) (v := .pointer (some ⟨bk, 0, none⟩)) rfl rfl (by kernel_rfl) (by kernel_rfl) (by kernel_rfl) (fun _ _ _ h => by first | exact h | cases h.1) (Or.inl ⟨by rfl, fun W hW => ?_⟩) hH ?_
         ·clear hW hH
          go_simp
         simp only [Act.put, List.setIfInBounds_toArray, List.set_cons_zero, List.set_cons_succ]
         refine take_d (i := 9) (d := some 79) (v := .int .i64 (m : Int)) rfl rfl (by kernel_rfl) (by kernel_rfl) (by kernel_rfl) (fun _ _ _ h => by first | exact h | cases h.1) (Or.inl ⟨by rfl, fun W hW => ?_⟩) hH ?_
         ·have k0 : W.cell? ⟨bk, 0, none⟩ = some (.int .i64 (m : Int)) := hW
          clear hW hH
          go_simp
         simp only [Act.put, List.setIfInBounds_toArray, List.set_cons_zero, List.set_cons_succ]
         refine take_d (i := 10) (d := some 80) (v := .int .i64 (-(m : Int))) rfl rfl (by kernel_rfl) (by kernel_rfl) (by kernel_rfl) (fun _ _ _ h => by first | exact h | cases h.1) (Or.inl ⟨by rfl, fun W hW => ?_⟩) hH ?_
         ·clear hW hH
          go_simp
         simp only [Act.put, List.setIfInBounds_toArray, List.set_cons_zero, List.set_cons_succ]
         refine take_d (i := 11) (d := some 81) (v := .agg #[.slice cv.a cv.n cv.c, .int .i64 (-(m : Int))]) rfl rfl (by kernel_rfl) (by kernel_rfl) (by kernel_rfl) (fun _ _ _ h => by first | exact h | cases h.1) (Or.inl ⟨by rfl, fun W hW => ?_⟩) hH ?_
         ·clear hW hH
          go_simp
         simp only [Act.put, List.setIfInBounds_toArray, List.set_cons_zero, List.set_cons_succ]
         have hx1 := hT.keep (Below.refl _ _).drew
         have hcv1 : W3.drew.ownsRow 0 31 8 (.slice cv.a cv.n cv.c) cv.n (flatA (List.replicate cv.n (xA m))) := own_below hcv (Below.refl _ _).drew
         have hzC := hzB
         generalize W3.drew = W1 at hx1 hcv1 hH hzC ⊢
         refine wpAnyH_ready (rs := [4, 12]) (by kernel_rfl) (by simp) ?_
         refine AllReadyH.cons rfl (fun K hK => ?_) (AllReadyH.cons rfl (fun K hK => ?_) AllReadyH.nil)
         ·skip
          have x2 := hx1.bok.cells 1 _ rfl
          rw [Nat.zero_add] at x2
          go_simp
          clear x2
          refine hK.out _ _ hH (fun hH => ?_)
          clear hK K
          refine wpAnyH_ready (rs := [12]) (by kernel_rfl) (by simp) ?_
          refine AllReadyH.cons rfl (fun K hK => ?_) AllReadyH.nil
          go_simp
          have hb2 : Below W1.heap.size W1 (W1.alloc (.cells #[.slice cv.a cv.n cv.c, .int .i64 (-(m : Int))] 60)) := (Below.refl _ _).alloc (Nat.le_refl _) _
          have hn2 := cells_new W1 [.slice cv.a cv.n cv.c, .int .i64 (-(m : Int))] 60
          have hbk1 := hx1.bok.lt bk (.inl rfl)
          refine hK.out _ (W1.alloc (.cells #[.slice cv.a cv.n cv.c, .int .i64 (-(m : Int))] 60)) ((hb2.cell (p := ⟨bk, 0, none⟩) hbk1).trans hH) (fun hH => ?_)
          clear hK K
          replace hx1 := hx1.keep hb2
          replace hcv1 := own_below hcv1 hb2
          generalize hW2 : W1.alloc (.cells #[.slice cv.a cv.n cv.c, .int .i64 (-(m : Int))] 60) = W2 at hx1 hcv1 hn2 hb2 hH ⊢
          refine wpAnyH_ready (rs := [13]) (by kernel_rfl) (by simp) ?_
          refine AllReadyH.cons rfl (fun K hK => ?_) AllReadyH.nil
          rw [if_pos (by rfl)]
          refine wp_append_keep W2 _ _ 33 rfl 0 60 i60 z60 2 32 ((q_underlying 33).trans Tryz.underlying33) hi60 hz60 hs60 hb60 hzs60 (by omega) _ _ _ rfl hx1.bok.oa ⟨zB, 0, none⟩ 1 1 [.slice cv.a cv.n cv.c, .int .i64 (-(m : Int))] rfl rfl (fun j v hj => by rw [Addr.add_mid, ← hzC]; exact hn2 j v hj) (fun v hv => by simp only [List.mem_cons, List.not_mem_nil, or_false] at hv; rcases hv with rfl | rfl <;> rfl) (by omega) (by simp [maxLen]; omega) (by omega) (Nat.zero_le _) _ rfl ?_
          intro g n W3 hown3 hgrow hat hlt3 hold3
          have hkb := hx1.bok.obj
          have hvab : ∀ g', B1.va.blk = some g' → g' ≠ bk := fun g' e => type_ne (own_type hx1.bok.oa g' e) ⟨_, hx1.bok.obj⟩ (by decide)
          have hbl : bk < W2.heap.size := (Array.getElem?_eq_some_iff.1 hx1.bok.obj).1
          have hbc : W3.heap[bk]? = W2.heap[bk]? := hgrow.block bk hbl (fun e => hvab bk e.symm rfl)
          have hc3 : W3.heap[bk]? = some (.cells (bkCells B1).toArray 37 (0, 0)) := hbc.trans hkb
          refine hK.out _ _ ((cell_of_row W3 bk 0 _ 37 (0, 0) hc3).trans ((cell_of_row W2 bk 0 _ 37 (0, 0) hkb).symm.trans hH)) (fun hH => ?_)
          clear hK K
          refine take_d (i := 14) (d := some 84) (v := .pointer (some ⟨bk, 0, none⟩)) rfl rfl (by kernel_rfl) (by kernel_rfl) (by kernel_rfl) (fun _ _ _ h => by first | exact h | cases h.1) (Or.inl ⟨by rfl, fun W hW => ?_⟩) hH ?_
          ·clear hW hH
           go_simp
          simp only [Act.put, List.setIfInBounds_toArray]
          refine take_d (i := 15) (d := some 85) (v := .pointer (some ⟨bk, 1, none⟩)) rfl rfl (by kernel_rfl) (by kernel_rfl) (by kernel_rfl) (fun _ _ _ h => by first | exact h | cases h.1) (Or.inl ⟨by rfl, fun W hW => ?_⟩) hH ?_
          ·clear hW hH
           go_simp
          simp only [Act.put]
          refine wpAnyH_ready (rs := [16]) (by kernel_rfl) (by simp) ?_
          refine AllReadyH.cons rfl (fun K hK => ?_) AllReadyH.nil
          have x2 : W3.cell? ⟨bk, 1, none⟩ = some (.slice B1.va.a B1.va.n B1.va.c) := (cell_of_row W3 bk 1 _ 37 (0, 0) hc3).trans rfl
          have y2 : W3.frozen? ⟨bk, 1, none⟩ = false := frozen_of_row W3 bk 1 _ 37 hc3
          go_simp
          clear x2 y2
          refine hK.out _ _ ((World.cell?_setCell_other _ _ _ _ (by intro e; have e' := congrArg Addr.off e; simp at e')).trans hH) (fun hH => ?_)
          clear hK K
          refine wpAnyH_done (by kernel_rfl) ?_ _
          have hpush := hx1.bok.pushA hgrow hown3 (row_of_own (xs := flatA (List.replicate cv.n (xA m))) hcv1 (repA (xA m) cv.n) rfl (Nat.le_refl _))
          have hk3 := kept_grown hgrow
          refine ⟨rfl, g, n, rfl, ⟨hpush, hx1.num, hx1.vs, hx1.vl, hx1.ss, hx1.ls, ?_, ?_, ?_, ?_, ?_⟩, ?_⟩
          ·intro p hp
           rcases List.mem_append.1 hp with hp | hp
           ·exact hx1.ent p hp
           ·rw [List.mem_singleton.1 hp]; exact .inr ⟨rfl, hcb⟩
          ·intro g' e
           cases e
           rcases hat with hat | hat
           ·exact hx1.vab g hat
           ·have := hx1.kept.size; exact .inr (by show w.heap.size ≤ g; omega)
          ·refine (hx1.kept.trans hk3 (fun _ _ h => h) ?_).trans (kept_setCell W3 ⟨bk, 1, none⟩ _) (fun _ _ h => h) (fun g' _ e => .inl e)
           intro g' h1 h2
           rcases hx1.vab g' h2 with h3 | h3
           ·exact .inr (.inl h3)
           ·omega
          ·have hwb : w.heap.size ≠ bk := type_ne hx1.xt ⟨_, hx1.bok.obj⟩ (by decide)
           intro j v hj
           rw [World.cell?_setCell_other _ _ _ _ (by intro e; have e' := congrArg Addr.block e; dsimp only at e'; omega)]
           refine (hgrow.cell_far ⟨w.heap.size, 0 + j, none⟩ ?_ ?_).trans (hx1.xc j v hj)
           ·obtain ⟨c, hc⟩ := hx1.xt
            exact (Array.getElem?_eq_some_iff.1 hc).1
           ·exact fun e => type_ne hx1.xt (own_type hx1.bok.oa _ e.symm) (by decide) rfl
          ·obtain ⟨c, hc⟩ := hx1.xt
           have hwb : w.heap.size ≠ bk := type_ne hx1.xt ⟨_, hx1.bok.obj⟩ (by decide)
           exact ⟨c, (heap_setCell_other W3 ⟨bk, 1, none⟩ _ _ hwb).trans ((hgrow.block _ (Array.getElem?_eq_some_iff.1 hc).1 (fun e => type_ne hx1.xt (own_type hx1.bok.oa _ e.symm) (by decide) rfl)).trans hc)⟩
          ·refine own_same hcv1 fun g' e => (heap_setCell_other W3 ⟨bk, 1, none⟩ g' _ ?_).trans (hgrow.block g' (own_lt hcv1 g' e) fun e2 => ?_)
           ·exact type_ne (own_type hcv1 g' e) ⟨_, hx1.bok.obj⟩ (by decide)
           ·exact type_ne (own_type hcv1 g' e) (own_type hx1.bok.oa g' e2.symm) (by decide) rfl
         ·skip
          go_simp
          have hb2 : Below W1.heap.size W1 (W1.alloc (.cells #[.slice cv.a cv.n cv.c, .int .i64 (-(m : Int))] 60)) := (Below.refl _ _).alloc (Nat.le_refl _) _
          have hn2 := cells_new W1 [.slice cv.a cv.n cv.c, .int .i64 (-(m : Int))] 60
          have hbk1 := hx1.bok.lt bk (.inl rfl)
          refine hK.out _ (W1.alloc (.cells #[.slice cv.a cv.n cv.c, .int .i64 (-(m : Int))] 60)) ((hb2.cell (p := ⟨bk, 0, none⟩) hbk1).trans hH) (fun hH => ?_)
          clear hK K
          replace hx1 := hx1.keep hb2
          replace hcv1 := own_below hcv1 hb2
          generalize hW2 : W1.alloc (.cells #[.slice cv.a cv.n cv.c, .int .i64 (-(m : Int))] 60) = W2 at hx1 hcv1 hn2 hb2 hH ⊢
          refine wpAnyH_ready (rs := [4]) (by kernel_rfl) (by simp) ?_
          refine AllReadyH.cons rfl (fun K hK => ?_) AllReadyH.nil
          have x2 := hx1.bok.cells 1 _ rfl
          rw [Nat.zero_add] at x2
          go_simp
          clear x2
          refine hK.out _ _ hH (fun hH => ?_)
          clear hK K
          refine wpAnyH_ready (rs := [13]) (by kernel_rfl) (by simp) ?_
          refine AllReadyH.cons rfl (fun K hK => ?_) AllReadyH.nil
          rw [if_pos (by rfl)]
          refine wp_append_keep W2 _ _ 33 rfl 0 60 i60 z60 2 32 ((q_underlying 33).trans Tryz.underlying33) hi60 hz60 hs60 hb60 hzs60 (by omega) _ _ _ rfl hx1.bok.oa ⟨zB, 0, none⟩ 1 1 [.slice cv.a cv.n cv.c, .int .i64 (-(m : Int))] rfl rfl (fun j v hj => by rw [Addr.add_mid, ← hzC]; exact hn2 j v hj) (fun v hv => by simp only [List.mem_cons, List.not_mem_nil, or_false] at hv; rcases hv with rfl | rfl <;> rfl) (by omega) (by simp [maxLen]; omega) (by omega) (Nat.zero_le _) _ rfl ?_
          intro g n W3 hown3 hgrow hat hlt3 hold3
          have hkb := hx1.bok.obj
          have hvab : ∀ g', B1.va.blk = some g' → g' ≠ bk := fun g' e => type_ne (own_type hx1.bok.oa g' e) ⟨_, hx1.bok.obj⟩ (by decide)
          have hbl : bk < W2.heap.size := (Array.getElem?_eq_some_iff.1 hx1.bok.obj).1
          have hbc : W3.heap[bk]? = W2.heap[bk]? := hgrow.block bk hbl (fun e => hvab bk e.symm rfl)
          have hc3 : W3.heap[bk]? = some (.cells (bkCells B1).toArray 37 (0, 0)) := hbc.trans hkb
          refine hK.out _ _ ((cell_of_row W3 bk 0 _ 37 (0, 0) hc3).trans ((cell_of_row W2 bk 0 _ 37 (0, 0) hkb).symm.trans hH)) (fun hH => ?_)
          clear hK K
          refine take_d (i := 14) (d := some 84) (v := .pointer (some ⟨bk, 0, none⟩)) rfl rfl (by kernel_rfl) (by kernel_rfl) (by kernel_rfl) (fun _ _ _ h => by first | exact h | cases h.1) (Or.inl ⟨by rfl, fun W hW => ?_⟩) hH ?_
          ·clear hW hH
           go_simp
          simp only [Act.put, List.setIfInBounds_toArray]
          refine take_d (i := 15) (d := some 85) (v := .pointer (some ⟨bk, 1, none⟩)) rfl rfl (by kernel_rfl) (by kernel_rfl) (by kernel_rfl) (fun _ _ _ h => by first | exact h | cases h.1) (Or.inl ⟨by rfl, fun W hW => ?_⟩) hH ?_
          ·clear hW hH
           go_simp
          simp only [Act.put]
          refine wpAnyH_ready (rs := [16]) (by kernel_rfl) (by simp) ?_
          refine AllReadyH.cons rfl (fun K hK => ?_) AllReadyH.nil
          have x2 : W3.cell? ⟨bk, 1, none⟩ = some (.slice B1.va.a B1.va.n B1.va.c) := (cell_of_row W3 bk 1 _ 37 (0, 0) hc3).trans rfl
          have y2 : W3.frozen? ⟨bk, 1, none⟩ = false := frozen_of_row W3 bk 1 _ 37 hc3
          go_simp
          clear x2 y2
          refine hK.out _ _ ((World.cell?_setCell_other _ _ _ _ (by intro e; have e' := congrArg Addr.off e; simp at e')).trans hH) (fun hH => ?_)
          clear hK K
          refine wpAnyH_done (by kernel_rfl) ?_ _
          have hpush := hx1.bok.pushA hgrow hown3 (row_of_own (xs := flatA (List.replicate cv.n (xA m))) hcv1 (repA (xA m) cv.n) rfl (Nat.le_refl _))
          have hk3 := kept_grown hgrow
          refine ⟨rfl, g, n, rfl, ⟨hpush, hx1.num, hx1.vs, hx1.vl, hx1.ss, hx1.ls, ?_, ?_, ?_, ?_, ?_⟩, ?_⟩
          ·intro p hp
           rcases List.mem_append.1 hp with hp | hp
           ·exact hx1.ent p hp
           ·rw [List.mem_singleton.1 hp]; exact .inr ⟨rfl, hcb⟩
          ·intro g' e
           cases e
           rcases hat with hat | hat
           ·exact hx1.vab g hat
           ·have := hx1.kept.size; exact .inr (by show w.heap.size ≤ g; omega)
          ·refine (hx1.kept.trans hk3 (fun _ _ h => h) ?_).trans (kept_setCell W3 ⟨bk, 1, none⟩ _) (fun _ _ h => h) (fun g' _ e => .inl e)
           intro g' h1 h2
           rcases hx1.vab g' h2 with h3 | h3
           ·exact .inr (.inl h3)
           ·omega
          ·have hwb : w.heap.size ≠ bk := type_ne hx1.xt ⟨_, hx1.bok.obj⟩ (by decide)
           intro j v hj
           rw [World.cell?_setCell_other _ _ _ _ (by intro e; have e' := congrArg Addr.block e; dsimp only at e'; omega)]
           refine (hgrow.cell_far ⟨w.heap.size, 0 + j, none⟩ ?_ ?_).trans (hx1.xc j v hj)
           ·obtain ⟨c, hc⟩ := hx1.xt
            exact (Array.getElem?_eq_some_iff.1 hc).1
           ·exact fun e => type_ne hx1.xt (own_type hx1.bok.oa _ e.symm) (by decide) rfl
          ·obtain ⟨c, hc⟩ := hx1.xt
           have hwb : w.heap.size ≠ bk := type_ne hx1.xt ⟨_, hx1.bok.obj⟩ (by decide)
           exact ⟨c, (heap_setCell_other W3 ⟨bk, 1, none⟩ _ _ hwb).trans ((hgrow.block _ (Array.getElem?_eq_some_iff.1 hc).1 (fun e => type_ne hx1.xt (own_type hx1.bok.oa _ e.symm) (by decide) rfl)).trans hc)⟩
          ·refine own_same hcv1 fun g' e => (heap_setCell_other W3 ⟨bk, 1, none⟩ g' _ ?_).trans (hgrow.block g' (own_lt hcv1 g' e) fun e2 => ?_)
           ·exact type_ne (own_type hcv1 g' e) ⟨_, hx1.bok.obj⟩ (by decide)
           ·exact type_ne (own_type hcv1 g' e) (own_type hx1.bok.oa g' e2.symm) (by decide) rfl
        ·rintro g n W ⟨hT2, hcv2⟩
         go_wp2_with fail
         refine ⟨⟨k + 1, cv, _, rfl, by go_num, by omega, by have := hcn.out; have := hcs.out; omega, ?_, hT2, hcv2, hcbb, ?_⟩, ?_⟩
         ·show (B1.aa ++ [(cv, m)]).length = _
          have := hls.out
          simp; omega
         ·intro p hp
          rcases List.mem_append.1 hp with hp | hp
          ·rcases hent p hp with h | h
           ·exact .inl h
           ·exact .inr (by have := hcn.out; omega)
          ·rw [List.mem_singleton.1 hp]; exact .inr (Nat.le_refl _)
         ·simp [Go.RowKit.intOf]; omega
       ·have hk' : k = 3 := by omega
        subst hk'
        go_wp2_with fail
        simp [bodyPost, results, Tryz.results15, go_sem]
        exact hdone _ _ (hm ▸ hT) (by omega)
end Go.Mark
