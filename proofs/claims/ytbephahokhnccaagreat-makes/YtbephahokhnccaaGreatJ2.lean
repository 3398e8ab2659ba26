/-
  A list of accounts that comes in: what its reading says of it.
-/
import Derived.Test.YtbephahokhnccaaGreatXH9btoJ1
import Derived.Deep.Slices
import Derived.ProofKit
import Derived.Lib.SmallJoins
import Derived.Laws.IdiomArrays
namespace Go.Mark
open Go.ChangeShapes Go.WideShapes Go.ChangeAt Go.RowKit Go.Joins Go.Proofs Go.Deep
theorem c26 : Tryz.prog.cellsOf 26 = 1 := by kernel_rfl
theorem c28 : Tryz.prog.cellsOf 28 = 4 := by kernel_rfl
theorem c57 : Tryz.prog.cellsOf 57 = 8 := by kernel_rfl
theorem c31 : Tryz.prog.cellsOf 31 = 8 := by kernel_rfl
theorem c3 : Tryz.prog.cellsOf 3 = 1 := by kernel_rfl
theorem c9 : Tryz.prog.cellsOf 9 = 1 := by kernel_rfl
theorem c29 : Tryz.prog.cellsOf 29 = 1 := by kernel_rfl
theorem by57 : Tryz.prog.bytesOf 57 = 64 := by kernel_rfl
theorem by31 : Tryz.prog.bytesOf 31 = 88 := by kernel_rfl
theorem u64_bd {x : Int} (h : (Lit.int .u64 x).wf = true) : 0 ≤ x ∧ x < 18446744073709551616 := by
  simp [Lit.wf, IntKind.min, IntKind.max, IntKind.signed, IntKind.bits] at h
  omega
theorem list4 {l : List Value} (h : l.length = 4) : ∃ a b c d, l = [a, b, c, d] := by
  match l, h with
  | [a, b, c, d], _ => exact ⟨a, b, c, d, rfl⟩
theorem list1 {l : List Value} (h : l.length = 1) : ∃ a, l = [a] := by
  match l, h with
  | [a], _ => exact ⟨a, rfl⟩
section
variable {H : Type} {enc : TypeId × Value → H} {w : World} {base : Nat} {spare : Nat → Bool} {held : Bool}
theorem word_cells {fuel : Nat} {cs : List Value} {x : DataW H × List MemPlace} (hl : cs.length = 4) (h : DataW.trod enc Tryz.prog w base spare held fuel 28 cs = some x) : ∃ n : Nat, n < M ∧ cs = [.int .u64 (lim n 0), .int .u64 (lim n 1), .int .u64 (lim n 2), .int .u64 (lim n 3)] := by
  obtain ⟨v0, v1, v2, v3, rfl⟩ := list4 hl
  obtain ⟨y0, y1, y2, y3, m, hx, h0, h1, h2, h3⟩ := trod_array4 Tryz.underlying28 c26 h
  obtain ⟨x0, e0, _, w0⟩ := DataW.trod_int Tryz.underlying26 h0
  obtain ⟨x1, e1, _, w1⟩ := DataW.trod_int Tryz.underlying26 h1
  obtain ⟨x2, e2, _, w2⟩ := DataW.trod_int Tryz.underlying26 h2
  obtain ⟨x3, e3, _, w3⟩ := DataW.trod_int Tryz.underlying26 h3
  simp at e0 e1 e2 e3
  subst e0 e1 e2 e3
  obtain ⟨n, hn, rfl, rfl, rfl, rfl⟩ := wd_of x0 x1 x2 x3 (u64_bd w0).1 (u64_bd w1).1 (u64_bd w2).1 (u64_bd w3).1 (u64_bd w0).2 (u64_bd w1).2 (u64_bd w2).2 (u64_bd w3).2
  exact ⟨n, hn, rfl⟩
theorem slot_cells {fuel : Nat} {cs : List Value} {x : DataW H × List MemPlace} (h : DataW.trod enc Tryz.prog w base spare held fuel 57 cs = some x) : ∃ p : Nat × Nat, p.1 < M ∧ p.2 < M ∧ cs = slotCells p := by
  obtain ⟨xs, n, _, _, hl, hxs, hf⟩ := DataW.trod_struct Tryz.underlying57 h
  rw [c57] at hl
  have h0 : DataW.trod enc Tryz.prog w base spare held n 28 ((cs.drop 0).take (Tryz.prog.cellsOf 28)) = xs[0]? := hf 0 _ rfl
  have h1 : DataW.trod enc Tryz.prog w base spare held n 28 ((cs.drop 4).take (Tryz.prog.cellsOf 28)) = xs[1]? := hf 1 _ rfl
  rw [c28] at h0 h1
  rw [List.drop_zero] at h0
  replace hxs : xs.length = 2 := hxs
  rw [List.getElem?_eq_getElem (by omega)] at h0 h1
  obtain ⟨k, hk, e0⟩ := word_cells (by simp; omega) h0
  obtain ⟨v, hv, e1⟩ := word_cells (by simp; omega) h1
  refine ⟨(k, v), hk, hv, ?_⟩
  have := List.take_append_drop 4 cs
  rw [List.take_of_length_le (by simp; omega)] at e1
  rw [← this, e0, e1]
  rfl
/-- an account, read -/
structure AccR (w : World) (cs : List Value) (D : DataW H) (p : AccD × SV) : Prop where
  cs : cs = accCells p.1 p.2
  bal : p.1.bal < M
  key : ∀ q ∈ p.1.slots, q.1 < M ∧ q.2 < M
  sl : p.2.n = p.1.slots.length ∧ (p.1.slots = [] ∨ ∃ bs os, p.2.a = some ⟨bs, os, none⟩ ∧ SlotsFrom w bs os p.1.slots)
  wt : (∀ n ∈ D.weights Tryz.prog 31, n ≤ reachBytes) → p.1.slots.length * 64 ≤ reachBytes
theorem cells_get {a : Addr} {n : Nat} {l : List Value} (h : w.cells? base a n = some l) : l.length = n ∧ ∀ j v, l[j]? = some v → w.cell? (a.add j) = some v := by
  unfold World.cells? at h
  split at h
  · have hl := mapM_some_length h
    refine ⟨by simpa using hl, fun j v hj => ?_⟩
    have hjn : j < n := by
      have := (List.getElem?_eq_some_iff.1 hj).1
      simp at hl
      omega
    have := mapM_some_get h j j (by simp [hjn])
    rw [this, hj]
  · cases h
theorem spot_none {a : Addr} {v : Value} (h : w.cell? a = some v) : a = ⟨a.block, a.off, none⟩ := by
  obtain ⟨b, o, s⟩ := a
  cases s with
  | none => rfl
  | some s =>
    unfold World.cell? at h
    split at h
    · simp at h
    · cases h
theorem slots_read {fuel : Nat} {v : Value} {x : DataW H × List MemPlace} (h : DataW.trod enc Tryz.prog w base (fun _ => true) held fuel 29 [v] = some x) :
    ∃ (s : SV) (ss : List (Nat × Nat)), v = .slice s.a s.n s.c ∧ s.n = ss.length ∧ (∀ q ∈ ss, q.1 < M ∧ q.2 < M) ∧ (ss = [] ∨ ∃ bs os, s.a = some ⟨bs, os, none⟩ ∧ SlotsFrom w bs os ss) ∧ ((∀ n ∈ x.1.weights Tryz.prog 29, n ≤ reachBytes) → ss.length * 64 ≤ reachBytes) := by
  rcases open_slice Tryz.underlying29 h with ⟨hcs, rfl⟩ | ⟨a, len, cap, m, n, D, Pl, hcs, _, hlc, _, hm, rfl, hel⟩
  · simp only [List.cons.injEq, and_true] at hcs
    exact ⟨⟨none, 0, 0⟩, [], hcs, rfl, fun q hq => (by cases hq), .inl rfl, fun _ => by simp⟩
  · simp only [List.cons.injEq, and_true] at hcs
    simp only [if_true] at hm
    rw [c57] at hel
    have hsl : ∀ i, i < len → ∃ p : Nat × Nat, (p.1 < M ∧ p.2 < M) ∧ ∀ j u, (slotCells p)[j]? = some u → w.cell? ((a.add (i * 8)).add j) = some u := fun i hi => by
      obtain ⟨cs', h1, h2⟩ := hel i (by omega)
      obtain ⟨p, hp1, hp2, rfl⟩ := slot_cells h2
      exact ⟨p, ⟨hp1, hp2⟩, (cells_get h1).2⟩
    obtain ⟨f, hf⟩ := choose_lt hsl
    refine ⟨⟨some a, len, cap⟩, (List.range len).map f, hcs, by simp, fun q hq => ?_, ?_, fun hw => ?_⟩
    · obtain ⟨i, hi, rfl⟩ := List.mem_map.1 hq
      exact (hf i (List.mem_range.1 hi)).1
    · by_cases h0 : 0 < len
      · have hc := (hf 0 h0).2 0 _ rfl
        have ha : (a.add (0 * 8)).add 0 = a := by simp [Addr.add]
        rw [ha] at hc
        have hs := spot_none hc
        refine .inr ⟨a.block, a.off, by rw [← hs], fun i q hq => ?_⟩
        simp only [List.getElem?_map, Option.map_eq_some_iff] at hq
        obtain ⟨i', hi', rfl⟩ := hq
        obtain ⟨hi1, hi2⟩ := List.getElem?_eq_some_iff.1 hi'
        simp only [List.length_range] at hi1
        simp only [List.getElem_range] at hi2
        subst hi2
        intro j u hj
        have := (hf i hi1).2 j u hj
        rw [add_add, hs, Addr.add_mid, ← Nat.add_assoc] at this
        exact this
      · exact .inl (by rw [show len = 0 by omega]; rfl)
    · have := hw ((((List.range len).map D).length + ((List.range (m - len)).map fun j => D (len + j)).length) * Tryz.prog.bytesOf 57) (by simp [DataW.weights, Tryz.underlying29])
      rw [by57] at this
      simp only [List.length_map, List.length_range] at this ⊢
      omega
theorem acc_read {fuel : Nat} {cs : List Value} {x : DataW H × List MemPlace} (h : DataW.trod enc Tryz.prog w base (fun _ => true) held fuel 31 cs = some x) : ∃ p, AccR w cs x.1 p := by
  obtain ⟨xs, n, _, hx, hl, hxs, hf⟩ := DataW.trod_struct Tryz.underlying31 h
  rw [c31] at hl
  have h0 : DataW.trod enc Tryz.prog w base (fun _ => true) held n 3 ((cs.drop 0).take (Tryz.prog.cellsOf 3)) = xs[0]? := hf 0 _ rfl
  have h1 : DataW.trod enc Tryz.prog w base (fun _ => true) held n 28 ((cs.drop 1).take (Tryz.prog.cellsOf 28)) = xs[1]? := hf 1 _ rfl
  have h2 : DataW.trod enc Tryz.prog w base (fun _ => true) held n 3 ((cs.drop 5).take (Tryz.prog.cellsOf 3)) = xs[2]? := hf 2 _ rfl
  have h3 : DataW.trod enc Tryz.prog w base (fun _ => true) held n 9 ((cs.drop 6).take (Tryz.prog.cellsOf 9)) = xs[3]? := hf 3 _ rfl
  have h4 : DataW.trod enc Tryz.prog w base (fun _ => true) held n 29 ((cs.drop 7).take (Tryz.prog.cellsOf 29)) = xs[4]? := hf 4 _ rfl
  rw [c3, List.drop_zero] at h0
  rw [c28] at h1
  rw [c3] at h2
  rw [c9] at h3
  rw [c29] at h4
  replace hxs : xs.length = 5 := hxs
  match xs, hxs with
  | [y0, y1, y2, y3, y4], _ =>
  simp only [List.getElem?_cons_zero, List.getElem?_cons_succ] at h0 h1 h2 h3 h4
  obtain ⟨i0, e0, _, _⟩ := DataW.trod_int Tryz.underlying3 h0
  obtain ⟨k, hk, e1⟩ := word_cells (by simp; omega) h1
  obtain ⟨i2, e2, _, _⟩ := DataW.trod_int Tryz.underlying3 h2
  obtain ⟨s, e3, _, _⟩ := DataW.trod_string Tryz.underlying9 h3
  obtain ⟨v4, e4⟩ := list1 (l := (cs.drop 7).take 1) (by simp; omega)
  rw [e4] at h4
  obtain ⟨sv, ss, hv, hn, hkey, hsl, hwt⟩ := slots_read h4
  refine ⟨(⟨i0, k, i2, s, ss⟩, sv), ?_, hk, hkey, ⟨hn, hsl⟩, fun hw => hwt fun n hn => hw n ?_⟩
  · have t1 := List.take_append_drop 1 cs
    have t2 := List.take_append_drop 4 (cs.drop 1)
    have t3 := List.take_append_drop 1 (cs.drop 5)
    have t4 := List.take_append_drop 1 (cs.drop 6)
    have t5 : (cs.drop 7).take 1 = cs.drop 7 := List.take_of_length_le (by simp; omega)
    simp only [List.drop_drop] at t2 t3 t4
    rw [← t1, ← t2, ← t3, ← t4, ← t5, e0, e1, e2, e3, e4, hv]
    rfl
  · rw [hx]
    simp only [List.map_cons, List.map_nil, DataW.weights, Tryz.underlying31]
    exact DataW.weights_mem_each (j := 4) (t := 29) rfl rfl n hn
theorem weightsAll_mem {P : Program} {e : TypeId} : ∀ {l : List (DataW H)} {d : DataW H}, d ∈ l → ∀ n ∈ d.weights P e, n ∈ DataW.weightsAll P e l
  | _ :: _, _, .head _, n, hn => by simp only [DataW.weightsAll, List.mem_append]; exact .inl hn
  | _ :: _, _, .tail _ h, n, hn => by simp only [DataW.weightsAll, List.mem_append]; exact .inr (weightsAll_mem h n hn)
/-- the list -/
theorem list_read {fuel : Nat} {a0 : Option Addr} {len cap : Nat} {x : DataW H × List MemPlace} (h : DataW.trod enc Tryz.prog w base (fun _ => true) held fuel 22 [.slice a0 len cap] = some x) (hw : ∀ n ∈ x.1.weights Tryz.prog 22, n ≤ reachBytes) :
    ∃ ds : List (AccD × SV), ds.length = len ∧ InR w a0 ds := by
  rcases open_slice Tryz.underlying22 h with ⟨hcs, rfl⟩ | ⟨a, len', cap', m, n, D, Pl, hcs, _, hlc, _, hm, rfl, hel⟩
  · simp only [List.cons.injEq, and_true, Value.slice.injEq] at hcs
    obtain ⟨rfl, rfl, rfl⟩ := hcs
    exact ⟨[], rfl, .inl rfl, fun p hp => (by cases hp), fun p hp => (by cases hp), fun p hp => (by cases hp), fun p hp => (by cases hp), by decide⟩
  · simp only [List.cons.injEq, and_true, Value.slice.injEq] at hcs
    obtain ⟨rfl, rfl, rfl⟩ := hcs
    simp only [if_true] at hm
    rw [c31] at hel
    have hacc : ∀ i, i < len → ∃ p : AccD × SV, ∃ cs, w.cells? base (a.add (i * 8)) 8 = some cs ∧ AccR w cs (D i) p := fun i hi => by
      obtain ⟨cs', h1, h2⟩ := hel i (by omega)
      obtain ⟨p, hp⟩ := acc_read h2
      exact ⟨p, cs', h1, hp⟩
    have hin : Inhabited (AccD × SV) := ⟨(⟨0, 0, 0, ByteArray.empty, []⟩, ⟨none, 0, 0⟩)⟩
    obtain ⟨f, hf⟩ := choose_lt hacc
    have hwl := hw ((((List.range len).map D).length + ((List.range (m - len)).map fun j => D (len + j)).length) * Tryz.prog.bytesOf 31) (by simp [DataW.weights, Tryz.underlying22])
    rw [by31] at hwl
    simp only [List.length_map, List.length_range, reachBytes] at hwl
    have hall : ∀ p ∈ (List.range len).map f, ∃ i, i < len ∧ p = f i := fun p hp => by
      obtain ⟨i, hi, rfl⟩ := List.mem_map.1 hp
      exact ⟨i, List.mem_range.1 hi, rfl⟩
    refine ⟨(List.range len).map f, by simp, ?_, fun p hp => ?_, fun p hp => ?_, fun p hp => ?_, fun p hp => ?_, by simp; omega⟩
    · by_cases h0 : 0 < len
      · obtain ⟨cs, h1, h2⟩ := hf 0 h0
        have hc := (cells_get h1).2 0 _ (by rw [h2.cs]; rfl)
        have ha : (a.add (0 * 8)).add 0 = a := by simp [Addr.add]
        rw [ha] at hc
        have hs := spot_none hc
        refine .inr ⟨a.block, a.off, by rw [← hs], fun i q hq => ?_⟩
        simp only [List.getElem?_map, Option.map_eq_some_iff] at hq
        obtain ⟨i', hi', rfl⟩ := hq
        obtain ⟨hi1, hi2⟩ := List.getElem?_eq_some_iff.1 hi'
        simp only [List.length_range] at hi1
        simp only [List.getElem_range] at hi2
        subst hi2
        intro j u hj
        obtain ⟨cs, h1, h2⟩ := hf i hi1
        have := (cells_get h1).2 j u (by rw [h2.cs]; exact hj)
        rw [add_add, hs, Addr.add_mid, ← Nat.add_assoc] at this
        exact this
      · exact .inl (by rw [show len = 0 by omega]; rfl)
    · obtain ⟨i, hi, rfl⟩ := hall p hp
      obtain ⟨cs, _, h2⟩ := hf i hi
      exact h2.sl
    · obtain ⟨i, hi, rfl⟩ := hall p hp
      obtain ⟨cs, _, h2⟩ := hf i hi
      exact h2.bal
    · obtain ⟨i, hi, rfl⟩ := hall p hp
      obtain ⟨cs, _, h2⟩ := hf i hi
      have := h2.wt fun n hn => hw n (by
        simp only [DataW.weights, Tryz.underlying22, List.mem_cons, List.mem_append]
        exact .inr (.inl (weightsAll_mem (List.mem_map_of_mem (List.mem_range.2 hi)) n hn)))
      simp only [reachBytes] at this
      omega
    · obtain ⟨i, hi, rfl⟩ := hall p hp
      obtain ⟨cs, _, h2⟩ := hf i hi
      exact h2.key
end
end Go.Mark
