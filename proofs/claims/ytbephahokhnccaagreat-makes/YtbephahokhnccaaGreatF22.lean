/-
 append, and the old row stays as it was; the book of lists.
-/
import Derived.Test.YtbephahokhnccaaGreatF21
namespace Go.Mark
open Go.RowKit Go.Proofs
theorem own_pre {W : World} {base size g n m cap : Nat} {e : TypeId} {xs ys : List Value} (h : W.ownsRow base e size (.slice (some ⟨g, 0, none⟩) (n + m) cap) (n + m) (xs ++ ys)) (hx : xs.length = n * size) : W.ownsRow base e size (.slice (some ⟨g, 0, none⟩) n cap) n xs := by
 rcases h.2 with ⟨h', _⟩ | ⟨g', cap', cur, h', hb, hg, hnc, hcm, hcs, ht⟩
 ·simp at h'
 ·simp only [Value.slice.injEq, Option.some.injEq, Addr.mk.injEq, and_true, true_and] at h'
  obtain ⟨rfl, rfl⟩ := h'
  refine ⟨hx, .inr ⟨g, cap, cur, rfl, hb, hg, by omega, hcm, hcs, ?_⟩⟩
  have e1 : cur.toList.take (n * size) = (cur.toList.take ((n + m) * size)).take (n * size) := by
   rw [List.take_take, Nat.min_eq_left (Nat.mul_le_mul_right _ (by omega))]
  rw [e1, ht, ← hx, List.take_left]
theorem run_append_keep {P : Program} (w : World) (t ty : TypeId) (base : Nat) (e : TypeId) (i : TypeInfo) (z : Value) (size bytes : Nat) (ht : P.underlying t = some (.slice e)) (hi : P.info? e = some i) (hz : i.zero = some z)
  (hsize : i.size = size) (hby : i.bytes = bytes) (hzs : z.cells.size = size) (hsz : 0 < size)
  (v : Value) (n : Nat) (xs : List Value) (hown : w.ownsRow base e size v n xs)
  (ad : Addr) (m c : Nat) (news : List Value) (hl : news.length = m * size) (hnews : ∀ j u, news[j]? = some u → w.cell? (ad.add j) = some u) (h1 : ∀ u ∈ news, u.oneCell' = true)
  (hm : 0 < m) (h63 : n + m ≤ maxLen) (hbytes : (n + m) * bytes ≤ 140737488355328) (hbase : base ≤ w.heap.size) (H : Nat) (hH : w.heap.size = H) :
  ∃ g cap w', (Builtin.append_ #[t, t] ty #[v, .slice (some ad) m c]).run P w = .ok (.slice (some ⟨g, 0, none⟩) (n + m) cap) w' ∧
   w'.ownsRow base e size (.slice (some ⟨g, 0, none⟩) (n + m) cap) (n + m) (xs ++ news) ∧ w.grownBy w' v.ownBlock ∧ (v.ownBlock = some g ∨ g = H) ∧ g < w'.heap.size ∧ w'.ownsRow base e size v n xs := by
 obtain ⟨g, cap, w', hr, h2, h3, h4, h5⟩ := run_append_lies (P := P) w t ty base e i z size bytes ht hi hz hsize hby hzs hsz v n xs hown ad m c news hl hnews h1 hm h63 hbytes hbase H hH
 refine ⟨g, cap, w', hr, h2, h3, h4, h5, ?_⟩
 rcases hown.2 with ⟨rfl, rfl⟩ | ⟨g0, cap0, cur, rfl, hbg, hg, hnc, hcm, hcs, htake⟩
 ·exact ⟨hown.1, .inl ⟨rfl, rfl⟩⟩
 ·by_cases hroom : n + m ≤ cap0
  ·obtain ⟨w2, hr2, ho2, _⟩ := run_append_fits (P := P) w base t ty e i size ht hi hsize g0 n cap0 xs hown ad m c news hl hnews h1 hroom
   rw [hr] at hr2
   simp only [Result.ok.injEq, Value.slice.injEq, Option.some.injEq, Addr.mk.injEq, and_true, true_and] at hr2
   obtain ⟨⟨rfl, rfl⟩, rfl⟩ := hr2
   exact own_pre h2 hown.1
  ·have hsmall : n + m ≤ 9223372036854775807 := by simp only [maxLen] at h63; omega
   have hr2 := run_append_grow (P := P) w t ty e i z ht hi hz ⟨g0, 0, none⟩ n cap0 xs (by rw [hsize]; exact hown.1) (hown.cells (g := g0) rfl) ad m c news (by rw [hsize]; exact hl) hnews (by omega) (by omega) (growslice_fits (by omega) (by rw [hby]; exact hbytes))
   rw [hr] at hr2
   injection hr2 with _ hw
   rw [hw]
   exact own_below (W := w) hown ((Below.refl _ _).drew.alloc (Nat.le_refl _) _)
/-- At the operation. -/
theorem wp_append_keep {P : Program} (w : World) {o : Oper} {a : Act} {K : Act → World → Prop} {Q : Exit → Act → World → Prop} (s x : Operand) (t : TypeId)
  (ho : o.op = .call { callee := .builtin .append, args := #[s, x], argTypes := #[t, t] })
  (base : Nat) (e : TypeId) (i : TypeInfo) (z : Value) (size bytes : Nat) (ht : P.underlying t = some (.slice e)) (hi : P.info? e = some i) (hz : i.zero = some z)
  (hsize : i.size = size) (hby : i.bytes = bytes) (hzs : z.cells.size = size) (hsz : 0 < size)
  (v : Value) (n : Nat) (xs : List Value) (hs : a.eval s = v) (hown : w.ownsRow base e size v n xs)
  (ad : Addr) (m c : Nat) (news : List Value) (hx : a.eval x = .slice (some ad) m c) (hl : news.length = m * size) (hnews : ∀ j u, news[j]? = some u → w.cell? (ad.add j) = some u) (h1 : ∀ u ∈ news, u.oneCell' = true)
  (hm : 0 < m) (h63 : n + m ≤ maxLen) (hbytes : (n + m) * bytes ≤ 140737488355328) (hbase : base ≤ w.heap.size) (H : Nat) (hH : w.heap.size = H)
  (h : ∀ g cap w', w'.ownsRow base e size (.slice (some ⟨g, 0, none⟩) (n + m) cap) (n + m) (xs ++ news) → w.grownBy w' v.ownBlock → (v.ownBlock = some g ∨ g = H) → g < w'.heap.size → w'.ownsRow base e size v n xs → K (a.put o.dst (.slice (some ⟨g, 0, none⟩) (n + m) cap)) w') : o.wp P a w K Q := by
 obtain ⟨g, cap, w', hr, h2, h3, h4, h5, h6⟩ := run_append_keep (P := P) w t o.type base e i z size bytes ht hi hz hsize hby hzs hsz v n xs hown ad m c news hl hnews h1 hm h63 hbytes hbase H hH
 unfold Oper.wp execOp
 simp only [ho, resolve, invoke, builtin, Sem.run_bind, Sem.run_pure, Result.andThen_ok, List.map_toArray, List.map_cons, List.map_nil, hs, hx, hr]
 exact h g cap w' h2 h3 h4 h5 h6
theorem wpList_append_keep {P : Program} (w : World) {ops : Array Oper} {rest : List Oper} {o : Oper} {a : Act} {Q : Exit → Act → World → Prop} (hgd : o.guard = none) (s x : Operand) (t : TypeId)
  (ho : o.op = .call { callee := .builtin .append, args := #[s, x], argTypes := #[t, t] })
  (base : Nat) (e : TypeId) (i : TypeInfo) (z : Value) (size bytes : Nat) (ht : P.underlying t = some (.slice e)) (hi : P.info? e = some i) (hz : i.zero = some z)
  (hsize : i.size = size) (hby : i.bytes = bytes) (hzs : z.cells.size = size) (hsz : 0 < size)
  (v : Value) (n : Nat) (xs : List Value) (hs : a.eval s = v) (hown : w.ownsRow base e size v n xs)
  (ad : Addr) (m c : Nat) (news : List Value) (hx : a.eval x = .slice (some ad) m c) (hl : news.length = m * size) (hnews : ∀ j u, news[j]? = some u → w.cell? (ad.add j) = some u) (h1 : ∀ u ∈ news, u.oneCell' = true)
  (hm : 0 < m) (h63 : n + m ≤ maxLen) (hbytes : (n + m) * bytes ≤ 140737488355328) (hbase : base ≤ w.heap.size) (H : Nat) (hH : w.heap.size = H)
  (h : ∀ g cap w', w'.ownsRow base e size (.slice (some ⟨g, 0, none⟩) (n + m) cap) (n + m) (xs ++ news) → w.grownBy w' v.ownBlock → (v.ownBlock = some g ∨ g = H) → g < w'.heap.size → w'.ownsRow base e size v n xs → wpList P ops Q rest (a.put o.dst (.slice (some ⟨g, 0, none⟩) (n + m) cap)) w') : wpList P ops Q (o :: rest) a w :=
 wpList_plain hgd fun _ hK => wp_append_keep w s x t ho base e i z size bytes ht hi hz hsize hby hzs hsz v n xs hs hown ad m c news hx hl hnews h1 hm h63 hbytes hbase H hH fun g cap w' h2 h3 h4 h5 h6 => hK _ _ (h g cap w' h2 h3 h4 h5 h6)
/-- all blocks but these are as they were -/
structure Kept (X : Nat → Prop) (w w' : World) : Prop where
 os : w'.os = w.os
 tape : w'.tape = w.tape
 output : w'.output = w.output
 size : w.heap.size ≤ w'.heap.size
 block : ∀ k, k < w.heap.size → ¬ X k → w'.heap[k]? = w.heap[k]?
theorem Kept.refl (X : Nat → Prop) (w : World) : Kept X w w := ⟨rfl, rfl, rfl, Nat.le_refl _, fun _ _ _ => rfl⟩
theorem Kept.trans {X Y Z : Nat → Prop} {w v u : World} (h : Kept X w v) (k : Kept Y v u) (h1 : ∀ g, g < w.heap.size → X g → Z g) (h2 : ∀ g, g < w.heap.size → Y g → Z g) : Kept Z w u :=
 ⟨k.os.trans h.os, k.tape.trans h.tape, k.output.trans h.output, Nat.le_trans h.size k.size, fun g hg hn => (k.block g (Nat.lt_of_lt_of_le hg h.size) (fun y => hn (h2 g hg y))).trans (h.block g hg (fun x => hn (h1 g hg x)))⟩
theorem Kept.mono {X Z : Nat → Prop} {w v : World} (h : Kept X w v) (h1 : ∀ g, g < w.heap.size → X g → Z g) : Kept Z w v :=
 ⟨h.os, h.tape, h.output, h.size, fun g hg hn => h.block g hg (fun x => hn (h1 g hg x))⟩
theorem kept_grown {w v : World} {r : Option Nat} (h : w.grownBy v r) : Kept (fun g => r = some g) w v := ⟨h.os, h.tape, h.output, h.size, fun k hk hn => h.block k hk (fun e => hn e.symm)⟩
theorem kept_below {w v : World} {B : Nat} (h : Below B w v) : Kept (fun g => B ≤ g) w v := ⟨h.os, h.tape, h.output, h.size, fun k _ hn => h.block k (by omega)⟩
theorem kept_setCell (w : World) (p : Addr) (u : Value) : Kept (fun g => g = p.block) w (w.setCell p u) :=
 ⟨rfl, rfl, rfl, by simp, fun k _ hn => heap_setCell_other w p k u hn⟩
theorem own_same {W W' : World} {base size n : Nat} {e : TypeId} {v : Value} {xs : List Value} (h : W.ownsRow base e size v n xs) (hs : ∀ g, v.ownBlock = some g → W'.heap[g]? = W.heap[g]?) : W'.ownsRow base e size v n xs := by
 refine ⟨h.1, h.2.imp id ?_⟩
 rintro ⟨g, cap, cur, h1, h2, h3, h4⟩
 subst h1
 exact ⟨g, cap, cur, rfl, h2, (hs g rfl).trans h3, h4⟩
/-- a list whose elements all have these cells -/
def RowAt (W : World) (e : TypeId) (cells : List Value) (v : SV) : Prop :=
 (v.a = none ∧ v.n = 0) ∨ ∃ b cur, v.a = some ⟨b, 0, none⟩ ∧ W.heap[b]? = some (.cells cur e (0, 0)) ∧ (∀ i j : Nat, i < v.n → j < 8 → cur[i * 8 + j]? = cells[j]?) ∧ v.n ≤ maxLen
theorem RowAt.same {W W' : World} {e : TypeId} {cells : List Value} {v : SV} (h : RowAt W e cells v) (hs : ∀ g, v.blk = some g → W'.heap[g]? = W.heap[g]?) : RowAt W' e cells v := by
 rcases h with h | ⟨b, cur, h1, h2, h3⟩
 ·exact .inl h
 ·exact .inr ⟨b, cur, h1, (hs b (by rw [SV.blk, h1]; rfl)).trans h2, h3⟩
theorem RowAt.lt {W : World} {e : TypeId} {cells : List Value} {v : SV} (h : RowAt W e cells v) : ∀ g, v.blk = some g → g < W.heap.size ∧ ∃ cur, W.heap[g]? = some (.cells cur e (0, 0)) := fun g hg => by
 rcases h with h | ⟨b, cur, h1, h2, h3⟩
 ·rw [SV.blk, h.1] at hg; cases hg
 ·rw [SV.blk, h1] at hg
  cases hg
  exact ⟨(Array.getElem?_eq_some_iff.1 h2).1, cur, h2⟩
theorem RowAt.cells {W : World} {e : TypeId} {cells : List Value} {v : SV} (h : RowAt W e cells v) (hc : cells.length = 8) {i : Nat} (hi : i < v.n) : ∃ b, v.a = some ⟨b, 0, none⟩ ∧ CellsAt W b (i * 8) cells ∧ v.n ≤ maxLen ∧ b < W.heap.size := by
 rcases h with h | ⟨b, cur, h1, h2, h3, h4⟩
 ·omega
 ·refine ⟨b, h1, fun j u hj => ?_, h4, (Array.getElem?_eq_some_iff.1 h2).1⟩
  rw [cell_of_row W b (i * 8 + j) _ e (0, 0) h2, h3 i j hi (by have := (List.getElem?_eq_some_iff.1 hj).1; omega)]
  exact hj
/-- of a longer row of the same block -/
theorem row_of_own {W : World} {base : Nat} {e : TypeId} {cells xs : List Value} {v u : SV} (h : W.ownsRow base e 8 (.slice u.a u.n u.c) u.n xs) (hx : ∀ i j : Nat, i < u.n → j < 8 → xs[i * 8 + j]? = cells[j]?) (ha : v.a = u.a) (hn : v.n ≤ u.n) : RowAt W e cells v := by
 rcases h.2 with ⟨h1, h2⟩ | ⟨g, cap, cur, h1, _, h3, hnc, hcm, _, h4⟩
 ·left
  simp only [Value.slice.injEq] at h1
  exact ⟨ha.trans h1.1, by omega⟩
 ·right
  simp only [Value.slice.injEq, true_and] at h1
  refine ⟨g, cur, ha.trans h1.1, h3, fun i j hi hj => ?_, by omega⟩
  rw [← hx i j (by omega) hj, ← h4, List.getElem?_take, if_pos (by omega)]
  simp
theorem own_type {W : World} {base size n : Nat} {e : TypeId} {v : Value} {xs : List Value} (h : W.ownsRow base e size v n xs) : ∀ g, v.ownBlock = some g → ∃ cur, W.heap[g]? = some (.cells cur e (0, 0)) := fun g hg => by
 rcases h.2 with ⟨rfl, _⟩ | ⟨g', cap, cur, rfl, _, h3, _⟩
 ·cases hg
 ·cases hg; exact ⟨cur, h3⟩
theorem type_ne {W : World} {g g' : Nat} {e e' : TypeId} (h : ∃ cur, W.heap[g]? = some (.cells cur e (0, 0))) (h' : ∃ cur, W.heap[g']? = some (.cells cur e' (0, 0))) (hne : e ≠ e') : g ≠ g' := fun he => by
 obtain ⟨c, h⟩ := h
 obtain ⟨c', h'⟩ := h'
 rw [he, h'] at h
 injection h with h
 injection h with _ h _
 exact hne h.symm
/-- the book: how many lists came out, and the lists -/
structure Bk where
 n : Nat
 va : SV
 vs : SV
 vl : SV
 aa : List (SV × Nat)
 ss : List (SV × Nat)
 ls : List (SV × Nat)
def flatP : List (SV × Nat) → List Value
 | [] => []
 | p :: l => [.slice p.1.a p.1.n p.1.c, .int .i64 (p.2 : Int)] ++ flatP l
def flatN : List (SV × Nat) → List Value
 | [] => []
 | p :: l => [.slice p.1.a p.1.n p.1.c, .int .i64 (-(p.2 : Int))] ++ flatN l
theorem flatP_append : ∀ (a b : List (SV × Nat)), flatP (a ++ b) = flatP a ++ flatP b
 | [], _ => rfl
 | p :: a, b => by rw [List.cons_append, flatP, flatP, flatP_append a b, List.append_assoc]
theorem flatN_append : ∀ (a b : List (SV × Nat)), flatN (a ++ b) = flatN a ++ flatN b
 | [], _ => rfl
 | p :: a, b => by rw [List.cons_append, flatN, flatN, flatN_append a b, List.append_assoc]
theorem flatP_at : ∀ (l : List (SV × Nat)) (k : Nat) (p : SV × Nat), l[k]? = some p → (flatP l)[k * 2]? = some (.slice p.1.a p.1.n p.1.c) ∧ (flatP l)[k * 2 + 1]? = some (.int .i64 (p.2 : Int))
 | [], _, _, h => by simp at h
 | q :: l, 0, p, h => by cases h; exact ⟨rfl, rfl⟩
 | q :: l, k + 1, p, h => by
  have := flatP_at l k p (by simpa using h)
  have e1 : (k + 1) * 2 = k * 2 + 1 + 1 := by omega
  rw [e1]
  exact this
theorem flatN_at : ∀ (l : List (SV × Nat)) (k : Nat) (p : SV × Nat), l[k]? = some p → (flatN l)[k * 2]? = some (.slice p.1.a p.1.n p.1.c) ∧ (flatN l)[k * 2 + 1]? = some (.int .i64 (-(p.2 : Int)))
 | [], _, _, h => by simp at h
 | q :: l, 0, p, h => by cases h; exact ⟨rfl, rfl⟩
 | q :: l, k + 1, p, h => by
  have := flatN_at l k p (by simpa using h)
  have e1 : (k + 1) * 2 = k * 2 + 1 + 1 := by omega
  rw [e1]
  exact this
/-- an account that bears a list's number -/
def accX (m : Nat) : AccD := ⟨-(m : Int), 0, 0, ByteArray.empty, []⟩
def bkCells (B : Bk) : List Value := [.int .i64 (B.n : Int), .slice B.va.a B.va.n B.va.c, .slice B.vs.a B.vs.n B.vs.c, .slice B.vl.a B.vl.n B.vl.c]
structure Book (W : World) (bk : Nat) (B : Bk) : Prop where
 obj : W.heap[bk]? = some (.cells (bkCells B).toArray 37 (0, 0))
 oa : W.ownsRow 0 60 2 (.slice B.va.a B.va.n B.va.c) B.aa.length (flatN B.aa)
 os : W.ownsRow 0 62 2 (.slice B.vs.a B.vs.n B.vs.c) B.ss.length (flatP B.ss)
 ol : W.ownsRow 0 65 2 (.slice B.vl.a B.vl.n B.vl.c) B.ls.length (flatN B.ls)
 ra : ∀ p ∈ B.aa, RowAt W 31 (accCells (accX p.2) ⟨none, 0, 0⟩) p.1
 rs : ∀ p ∈ B.ss, RowAt W 57 (slotCells (p.2, 0)) p.1
 ln : ∀ p ∈ B.ls, False
 nb : ∀ p ∈ B.ss, p.2 ≤ B.n
/-- the blocks that a book leans on -/
def Bk.uses (B : Bk) (bk g : Nat) : Prop := g = bk ∨ B.va.blk = some g ∨ B.vs.blk = some g ∨ B.vl.blk = some g ∨ (∃ p ∈ B.aa, p.1.blk = some g) ∨ (∃ p ∈ B.ss, p.1.blk = some g)
theorem Book.same {W W' : World} {bk : Nat} {B : Bk} (h : Book W bk B) (hs : ∀ g, B.uses bk g → W'.heap[g]? = W.heap[g]?) : Book W' bk B :=
 ⟨(hs bk (.inl rfl)).trans h.obj, own_same h.oa fun g hg => hs g (.inr (.inl hg)), own_same h.os fun g hg => hs g (.inr (.inr (.inl hg))), own_same h.ol fun g hg => hs g (.inr (.inr (.inr (.inl hg)))),
  fun p hp => (h.ra p hp).same fun g hg => hs g (.inr (.inr (.inr (.inr (.inl ⟨p, hp, hg⟩))))), fun p hp => (h.rs p hp).same fun g hg => hs g (.inr (.inr (.inr (.inr (.inr ⟨p, hp, hg⟩))))), h.ln, h.nb⟩
theorem Book.lt {W : World} {bk : Nat} {B : Bk} (h : Book W bk B) : ∀ g, B.uses bk g → g < W.heap.size := fun g hg => by
 rcases hg with rfl | hg | hg | hg | ⟨p, hp, hg⟩ | ⟨p, hp, hg⟩
 ·exact (Array.getElem?_eq_some_iff.1 h.obj).1
 ·exact own_lt h.oa g hg
 ·exact own_lt h.os g hg
 ·exact own_lt h.ol g hg
 ·exact ((h.ra p hp).lt g hg).1
 ·exact ((h.rs p hp).lt g hg).1
theorem Book.below {W W' : World} {bk : Nat} {B : Bk} (h : Book W bk B) (hb : Below W.heap.size W W') : Book W' bk B := h.same fun g hg => hb.block g (h.lt g hg)
theorem Book.cells {W : World} {bk : Nat} {B : Bk} (h : Book W bk B) : CellsAt W bk 0 (bkCells B) := fun j v hj => by
 rw [Nat.zero_add, cell_of_row W bk j _ 37 (0, 0) h.obj]
 simpa using hj
theorem Book.fz {W : World} {bk : Nat} {B : Bk} (h : Book W bk B) (j : Nat) : W.frozen? ⟨bk, j, none⟩ = false := frozen_of_row W bk j _ 37 h.obj
end Go.Mark
