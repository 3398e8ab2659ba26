/-
 Accounts in memory; ledger.differentIDs at the stripped program.
-/
import Derived.Test.YtbephahokhnccaaGreatXE7toF4
import Derived.Deep.CutRange
import Derived.Test.YtbephahokhnccaaGreatProg
namespace Go.Mark
open Go.RowKit Go.Proofs
/-- an account: its number, its coins, its nonce, its code, its slots -/
structure AccD where
 id : Int
 bal : Nat
 nonce : Int
 code : ByteArray
 slots : List (Nat × Nat)
/-- a slice -/
structure SV where
 a : Option Addr
 n : Nat
 c : Nat
/-- the cells of an account whose list of slots is this slice -/
def accCells (d : AccD) (s : SV) : List Value := [.int .i64 d.id, .int .u64 (lim d.bal 0), .int .u64 (lim d.bal 1), .int .u64 (lim d.bal 2), .int .u64 (lim d.bal 3), .int .i64 d.nonce, .string d.code, .slice s.a s.n s.c]
/-- the cells from place o of block b on -/
def CellsAt (w : World) (b o : Nat) (l : List Value) : Prop := ∀ (j : Nat) (v : Value), l[j]? = some v → w.cell? ⟨b, o + j, none⟩ = some v
def AccsAt (w : World) (b o : Nat) (ds : List (AccD × SV)) : Prop := ∀ (i : Nat) (p : AccD × SV), ds[i]? = some p → CellsAt w b (o + i * 8) (accCells p.1 p.2)
theorem CellsAt.below {w w' : World} {b o : Nat} {l : List Value} (h : CellsAt w b o l) (hb : Below w.heap.size w w') : CellsAt w' b o l := fun j v hj => by
 have := h j v hj
 have hlt : b < w.heap.size := by
  simp only [World.cell?] at this
  cases hh : w.heap[b]? with
  | none => rw [hh] at this; cases this
  | some o => exact (Array.getElem?_eq_some_iff.1 hh).1
 rw [hb.cell (p := ⟨b, o + j, none⟩) hlt]
 exact this
theorem AccsAt.below {w w' : World} {b o : Nat} {ds : List (AccD × SV)} (h : AccsAt w b o ds) (hb : Below w.heap.size w w') : AccsAt w' b o ds := fun i p hp => (h i p hp).below hb
theorem snoc_ind {α : Type} {P : List α → Prop} (h0 : P []) (h1 : ∀ l x, P l → P (l ++ [x])) (l : List α) : P l := by
 have : ∀ l : List α, P l.reverse := by
  intro l
  induction l with
  | nil => exact h0
  | cons x l ih => rw [List.reverse_cons]; exact h1 _ _ ih
 have h := this l.reverse
 rwa [List.reverse_reverse] at h
section
variable {κ : Type} [DecidableEq κ]
/-- the set of these keys, as a map's list -/
def setL (u : Value) (ks : List κ) : List (κ × Value) := ks.foldl (fun l k => updL k u l) []
theorem setL_snoc (u : Value) (ks : List κ) (k : κ) : setL u (ks ++ [k]) = updL k u (setL u ks) := by simp [setL, List.foldl_append]
theorem updL_keys (u : Value) (k : κ) : ∀ l : List (κ × Value), (updL k u l).map (·.1) = if k ∈ l.map (·.1) then l.map (·.1) else l.map (·.1) ++ [k]
 | [] => by simp [updL]
 | p :: l => by
  unfold updL
  by_cases h : k = p.1
  ·simp [h]
  ·rw [if_neg h, List.map_cons, updL_keys u k l]
   by_cases h' : k ∈ l.map (·.1)
   ·rw [if_pos h', if_pos (by simp [h'])]; rfl
   ·rw [if_neg h', if_neg (by simp only [List.map_cons, List.mem_cons, not_or]; exact ⟨h, h'⟩)]
    rfl
theorem setL_mem (u : Value) (ks : List κ) : ∀ k, k ∈ (setL u ks).map (·.1) ↔ k ∈ ks := by
 refine snoc_ind (P := fun ks => ∀ k, k ∈ (setL u ks).map (·.1) ↔ k ∈ ks) (by simp [setL]) (fun ks x ih => ?_) ks
 ·intro k
  rw [setL_snoc, updL_keys]
  split
  ·rename_i h
   rw [ih]
   constructor
   ·intro hk; simp [hk]
   ·intro hk
    rcases List.mem_append.1 hk with hk | hk
    ·exact hk
    ·rw [List.mem_singleton.1 hk]; exact (ih x).1 h
  ·rw [List.mem_append, ih, List.mem_append]
theorem setL_len (u : Value) (ks : List κ) : (setL u ks).length ≤ ks.length ∧ ((setL u ks).length = ks.length ↔ ks.Nodup) := by
 refine snoc_ind (P := fun ks => (setL u ks).length ≤ ks.length ∧ ((setL u ks).length = ks.length ↔ ks.Nodup)) (by simp [setL]) (fun ks x ih => ?_) ks
 ·have hl : (setL u (ks ++ [x])).length = ((setL u (ks ++ [x])).map (·.1)).length := by simp
  rw [hl, setL_snoc, updL_keys]
  split
  ·rename_i h
   rw [setL_mem] at h
   have := ih.1
   simp only [List.length_map, List.length_append, List.length_cons, List.length_nil]
   refine ⟨by omega, ⟨fun e => by omega, fun hn => ?_⟩⟩
   have := (List.nodup_append.1 hn).2.2 x h x (by simp)
   exact absurd rfl this
  ·rename_i h
   rw [setL_mem] at h
   simp only [List.length_append, List.length_map, List.length_cons, List.length_nil]
   refine ⟨by omega, ?_⟩
   rw [List.nodup_append]
   constructor
   ·intro e
    refine ⟨ih.2.1 (by omega), by simp, fun a ha b hb => ?_⟩
    rw [List.mem_singleton.1 hb]
    rintro rfl
    exact h ha
   ·rintro ⟨h1, _, _⟩
    have := ih.2.2 h1
    omega
end
/-- behind the walk's writes below nothing has turned -/
theorem below_setMap {B : Nat} {a w : World} (h : Below B a w) {r : Nat} (hr : B ≤ r) (o : Obj) : Below B a { w with heap := w.heap.setIfInBounds r o } :=
 ⟨h.os, h.tape, h.output, by simpa using h.size, fun k hk => by rw [Array.getElem?_setIfInBounds_ne (by omega)]; exact h.block k hk⟩
theorem MapL.of_block {κ : Type} {kf : κ → Value} {w w' : World} {r : Nat} {l : List (κ × Value)} (h : MapL kf w r l) (e : w'.heap[r]? = w.heap[r]?) : MapL kf w' r l := let ⟨es, c, hb, hR⟩ := h; ⟨es, c, e.trans hb, hR⟩
theorem MapL.alloc {κ : Type} {kf : κ → Value} {w : World} {r : Nat} {l : List (κ × Value)} (h : MapL kf w r l) (o : Obj) : MapL kf (w.alloc o) r l := by
 refine h.of_block ?_
 obtain ⟨_, _, hb, _⟩ := h
 have := (Array.getElem?_eq_some_iff.1 hb).1
 show (w.heap.push o)[r]? = _
 rw [Array.getElem?_push_lt this, Array.getElem?_eq_getElem this]
theorem take_map {α β : Type} (f : α → β) (l : List α) (k : Nat) (h : k < l.length) : (l.take k).map f ++ [f l[k]] = (l.take (k + 1)).map f := by
 rw [List.take_add_one, List.getElem?_eq_getElem h, List.map_append]
 rfl
set_option maxRecDepth 100000 in
/-- behind an entry's setting -/
theorem upon_mapUpdate {κ : Type} [DecidableEq κ] {kt et mt : TypeId} {kf : κ → Value} {ok : κ → Prop} (K : Keys kt kf ok) (hm : TryQ.prog.underlying mt = some (.map kt et)) {W : World} {r : Nat} {l : List (κ × Value)} {k : κ} {v : Value} {o : Oper} {a : Act} {next : Act → World → Prop} {Q : Exit → Act → World → Prop} (hM : MapL kf W r l) (hk : ok k) (hl : ∀ p ∈ l, ok p.1)
  (h : ∀ o', MapL kf { W with heap := W.heap.setIfInBounds r o' } r (updL k v l) → next (a.put o.dst undef) { W with heap := W.heap.setIfInBounds r o' }) :
  Oper.upon TryQ.prog o a next Q ((Sem.run TryQ.prog (Instr.mapUpdate mt (.map (some r)) (kf k) v) W).andThen fun _ w' => .ok .skip w') := by
 obtain ⟨es, clock, hrun, hM'⟩ := run_mapUpdate K hm (v := v) hM hk hl
 rw [hrun]
 exact h _ hM'
theorem run_mkMap {mt kt et : TypeId} (hm : TryQ.prog.underlying mt = some (.map kt et)) (n : Nat) (w : World) : (Instr.makeMap mt (some (.int .i64 n))).run TryQ.prog w = .ok (.map (some w.heap.size)) (w.alloc (.map #[] 0)) := by
 unfold Instr.makeMap
 simp [run_underlying hm, asInt, asIntOf]
set_option maxRecDepth 100000 in
set_option maxHeartbeats 2000000 in
theorem diffIDs (ds : List (AccD × SV)) (b cap : Nat) (w : World) (hA : AccsAt w b 0 ds) (hn : ds.length < 2199023255552) :
  Calls TryQ.prog 23 #[.slice (some ⟨b, 0, none⟩) ds.length cap] w fun e w' => e = .returned (.bool (decide (ds.map (·.1.id)).Nodup)) ∧ Below w.heap.size w w' := by
 have u83 : TryQ.prog.underlying 83 = some (.map 3 106) := (q_underlying 83).trans Tryz.underlying83
 have hmk := fun W => run_mkMap u83 ds.length W
 go_enter TryQ.func23, Tryz.ntmps23
 go_wp2
 go_loopw [11] (fun i wr => ∃ k : Nat, i = .int .i64 k ∧ k ≤ ds.length ∧ MapL (fun x : Int => Value.int .i64 x) wr w.heap.size (setL (.agg #[]) ((ds.take k).map (·.1.id))) ∧ Below w.heap.size w wr ∧ w.heap.size < wr.heap.size) (fun i _ => ds.length - (Go.RowKit.intOf i).toNat)
 case atStart =>
  exact ⟨0, rfl, Nat.zero_le _, ⟨#[], 0, by show (w.heap.push _)[w.heap.size]? = _; rw [Array.getElem?_push_size], rfl⟩, (Below.refl _ _).alloc (Nat.le_refl _) _, by simp⟩
 case round =>
  obtain ⟨k, rfl, hk, hM, hB, hsz⟩ := hrel
  by_cases hlt : k < ds.length
  ·have hlt' : (k : Int) < (ds.length : Int) := by omega
   have hA' := (hA.below hB) k ds[k] (List.getElem?_eq_getElem hlt)
   rw [Nat.zero_add] at hA'
   have c0 := hA' 0 _ rfl
   have c1 := hA' 1 _ rfl
   have c2 := hA' 2 _ rfl
   have c3 := hA' 3 _ rfl
   have c4 := hA' 4 _ rfl
   have c5 := hA' 5 _ rfl
   have c6 := hA' 6 _ rfl
   have c7 := hA' 7 _ rfl
   rw [Nat.add_zero] at c0
   clear hA'
   go_wp2
   refine upon_mapUpdate intKeys u83 (k := ds[k].1.id) (hM.alloc _) trivial (fun _ _ => trivial) (fun o' hM' => ?_)
   have hB' := below_setMap ((hB.alloc (Nat.le_of_lt hsz) (.cells #[.int .i64 ds[k].1.id, .int .u64 (lim ds[k].1.bal 0), .int .u64 (lim ds[k].1.bal 1), .int .u64 (lim ds[k].1.bal 2), .int .u64 (lim ds[k].1.bal 3), .int .i64 ds[k].1.nonce, .string ds[k].1.code, .slice ds[k].2.a ds[k].2.n ds[k].2.c] 31))) (Nat.le_refl _) o'
   rw [← setL_snoc, take_map (fun p : AccD × SV => p.1.id) ds k hlt] at hM'
   have hs' : w.heap.size < (wr.heap.push (.cells #[.int .i64 ds[k].1.id, .int .u64 (lim ds[k].1.bal 0), .int .u64 (lim ds[k].1.bal 1), .int .u64 (lim ds[k].1.bal 2), .int .u64 (lim ds[k].1.bal 3), .int .i64 ds[k].1.nonce, .string ds[k].1.code, .slice ds[k].2.a ds[k].2.n ds[k].2.c] 31)).size := by simp; omega
   go_wp2
   go_roundw
   case rel =>
    exact ⟨k + 1, by go_num, by omega, hM', hB', by simpa using hs'⟩
   case measure => simp [Go.RowKit.intOf]; omega
  ·have hk' : k = ds.length := by omega
   subst hk'
   rw [List.take_length] at hM
   have hlen := run_lenMap u83 hM
   go_wp2
   have hnd := setL_len (Value.agg #[]) (ds.map (·.1.id))
   rw [List.length_map] at hnd
   have hbb : ((↑(setL (Value.agg #[]) (List.map (fun x => x.fst.id) ds)).length : Int) == (↑ds.length : Int)) = decide (ds.map (·.1.id)).Nodup := by
    rw [Bool.eq_iff_iff, beq_iff_eq, decide_eq_true_iff, ← hnd.2]
    omega
   simp [bodyPost, results, Tryz.results23, go_sem]
   exact ⟨by rw [hbb], hB⟩
end Go.Mark
/-
 ledger.differentKeys, allowedAccount at the stripped program.
-/
namespace Go.Mark
open Go.RowKit Go.Proofs
def slotCells (p : Nat × Nat) : List Value := [.int .u64 (lim p.1 0), .int .u64 (lim p.1 1), .int .u64 (lim p.1 2), .int .u64 (lim p.1 3), .int .u64 (lim p.2 0), .int .u64 (lim p.2 1), .int .u64 (lim p.2 2), .int .u64 (lim p.2 3)]
/-- slots that lie from the beginning of block b on -/
def SlotsAt (w : World) (b : Nat) (ss : List (Nat × Nat)) : Prop := ∀ (i : Nat) (p : Nat × Nat), ss[i]? = some p → CellsAt w b (i * 8) (slotCells p)
theorem SlotsAt.below {w w' : World} {b : Nat} {ss : List (Nat × Nat)} (h : SlotsAt w b ss) (hb : Below w.heap.size w w') : SlotsAt w' b ss := fun i p hp => (h i p hp).below hb
theorem setL_sub {κ : Type} [DecidableEq κ] {ok : κ → Prop} (u : Value) (ks : List κ) (h : ∀ k ∈ ks, ok k) : ∀ p ∈ setL u ks, ok p.1 := fun p hp => h _ ((setL_mem u ks p.1).1 (List.mem_map_of_mem hp))
set_option maxRecDepth 100000 in
set_option maxHeartbeats 2000000 in
theorem diffKeys (ss : List (Nat × Nat)) (b cap : Nat) (w : World) (hA : SlotsAt w b ss) (hn : ss.length < 2199023255552) (hm : ∀ p ∈ ss, p.1 < M) :
  Calls TryQ.prog 34 #[.slice (some ⟨b, 0, none⟩) ss.length cap] w fun e w' => e = .returned (.bool (decide (ss.map (·.1)).Nodup)) ∧ Below w.heap.size w w' := by
 have u122 : TryQ.prog.underlying 122 = some (.map 28 106) := (q_underlying 122).trans Tryz.underlying122
 have hmk := fun W => run_mkMap u122 ss.length W
 go_enter TryQ.func34, Tryz.ntmps34
 go_wp2
 go_loopw [11] (fun i wr => ∃ k : Nat, i = .int .i64 k ∧ k ≤ ss.length ∧ MapL wd wr w.heap.size (setL (.agg #[]) ((ss.take k).map (·.1))) ∧ Below w.heap.size w wr ∧ w.heap.size < wr.heap.size) (fun i _ => ss.length - (Go.RowKit.intOf i).toNat)
 case atStart =>
  exact ⟨0, rfl, Nat.zero_le _, ⟨#[], 0, by show (w.heap.push _)[w.heap.size]? = _; rw [Array.getElem?_push_size], rfl⟩, (Below.refl _ _).alloc (Nat.le_refl _) _, by simp⟩
 case round =>
  obtain ⟨k, rfl, hk, hM, hB, hsz⟩ := hrel
  by_cases hlt : k < ss.length
  ·have hlt' : (k : Int) < (ss.length : Int) := by omega
   have hA' := (hA.below hB) k ss[k] (List.getElem?_eq_getElem hlt)
   have c0 := hA' 0 _ rfl
   have c1 := hA' 1 _ rfl
   have c2 := hA' 2 _ rfl
   have c3 := hA' 3 _ rfl
   have c4 := hA' 4 _ rfl
   have c5 := hA' 5 _ rfl
   have c6 := hA' 6 _ rfl
   have c7 := hA' 7 _ rfl
   rw [Nat.add_zero] at c0
   clear hA'
   go_wp2
   refine upon_mapUpdate wordKeys u122 (k := ss[k].1) (hM.alloc _) (hm _ (List.getElem_mem hlt)) (setL_sub (ok := (· < M)) _ _ (fun x hx => by obtain ⟨p, hp, rfl⟩ := List.mem_map.1 hx; exact hm p (List.mem_of_mem_take hp))) (fun o' hM' => ?_)
   have hB' := below_setMap ((hB.alloc (Nat.le_of_lt hsz) (.cells (slotCells ss[k]).toArray 57))) (Nat.le_refl _) o'
   rw [← setL_snoc, take_map (fun p : Nat × Nat => p.1) ss k hlt] at hM'
   have hs' : w.heap.size < (wr.heap.push (.cells (slotCells ss[k]).toArray 57)).size := by simp; omega
   go_wp2
   go_roundw
   case rel =>
    exact ⟨k + 1, by go_num, by omega, hM', hB', by simpa using hs'⟩
   case measure => simp [Go.RowKit.intOf]; omega
  ·have hk' : k = ss.length := by omega
   subst hk'
   rw [List.take_length] at hM
   have hlen := run_lenMap u122 hM
   go_wp2
   have hnd := setL_len (Value.agg #[]) (ss.map (·.1))
   rw [List.length_map] at hnd
   have hbb : ((↑(setL (Value.agg #[]) (List.map (fun x => x.fst) ss)).length : Int) == (↑ss.length : Int)) = decide (ss.map (·.1)).Nodup := by
    rw [Bool.eq_iff_iff, beq_iff_eq, decide_eq_true_iff, ← hnd.2]
    omega
   simp [bodyPost, results, Tryz.results34, go_sem]
   exact ⟨by rw [hbb], hB⟩
/-- what is asked of one account -/
def AccOk (d : AccD) : Prop := 1 ≤ d.id ∧ d.id ≤ 999999 ∧ 0 ≤ d.nonce ∧ d.nonce ≤ 4611686018427387904 ∧ (d.code.size : Int) ≤ 2000 ∧ (d.slots.length : Int) ≤ 64 ∧ (d.slots.map (·.1)).Nodup
instance (d : AccD) : Decidable (AccOk d) := by unfold AccOk; infer_instance
set_option maxRecDepth 100000 in
set_option maxHeartbeats 4000000 in
theorem allowedAcc (d : AccD) (bs cap : Nat) (w : World) (hS : SlotsAt w bs d.slots) (hn : d.slots.length < 2199023255552) (hm : ∀ p ∈ d.slots, p.1 < M) :
  Calls TryQ.prog 22 #[.agg (accCells d ⟨some ⟨bs, 0, none⟩, d.slots.length, cap⟩).toArray] w fun e w' => e = .returned (.bool (decide (AccOk d))) ∧ Below w.heap.size w w' := by
 unfold accCells
 have hB : ∀ o, Below w.heap.size w (w.alloc o) := fun o => (Below.refl _ _).alloc (Nat.le_refl _) o
 by_cases h1 : 1 ≤ d.id
 rotate_left
 ·have ho : decide (AccOk d) = false := decide_eq_false (fun h => absurd h.1 h1)
  rw [ho]
  go_enter TryQ.func22, Tryz.ntmps22
  go_wp2
  go_ret
  exact ⟨rfl, hB _⟩
 by_cases h2 : d.id ≤ 999999
 rotate_left
 ·have ho : decide (AccOk d) = false := decide_eq_false (fun h => absurd h.2.1 h2)
  rw [ho]
  go_enter TryQ.func22, Tryz.ntmps22
  go_wp2
  go_ret
  exact ⟨rfl, hB _⟩
 by_cases h3 : 0 ≤ d.nonce
 rotate_left
 ·have ho : decide (AccOk d) = false := decide_eq_false (fun h => absurd h.2.2.1 h3)
  rw [ho]
  go_enter TryQ.func22, Tryz.ntmps22
  go_wp2
  go_ret
  exact ⟨rfl, hB _⟩
 by_cases h4 : d.nonce ≤ 4611686018427387904
 rotate_left
 ·have ho : decide (AccOk d) = false := decide_eq_false (fun h => absurd h.2.2.2.1 h4)
  rw [ho]
  go_enter TryQ.func22, Tryz.ntmps22
  go_wp2
  go_ret
  exact ⟨rfl, hB _⟩
 by_cases h5 : (d.code.size : Int) ≤ 2000
 rotate_left
 ·have ho : decide (AccOk d) = false := decide_eq_false (fun h => absurd h.2.2.2.2.1 h5)
  rw [ho]
  go_enter TryQ.func22, Tryz.ntmps22
  go_wp2
  go_ret
  exact ⟨rfl, hB _⟩
 by_cases h6 : (d.slots.length : Int) ≤ 64
 rotate_left
 ·have ho : decide (AccOk d) = false := decide_eq_false (fun h => absurd h.2.2.2.2.2.1 h6)
  rw [ho]
  go_enter TryQ.func22, Tryz.ntmps22
  go_wp2
  go_ret
  exact ⟨rfl, hB _⟩
 have hk : decide (AccOk d) = decide (d.slots.map (·.1)).Nodup := by
  by_cases h7 : (d.slots.map (·.1)).Nodup
  ·have hA : AccOk d := ⟨h1, h2, h3, h4, h5, h6, h7⟩
   rw [decide_eq_true h7, decide_eq_true hA]
  ·have hA : ¬ AccOk d := fun h => h7 h.2.2.2.2.2.2
   rw [decide_eq_false h7, decide_eq_false hA]
 rw [hk]
 go_enter TryQ.func22, Tryz.ntmps22
 go_wp2_with (go_at_call 34; refine (diffKeys d.slots bs cap _ (hS.below (hB _)) hn hm).mono ?_; rintro e w' ⟨rfl, hb⟩)
 simp [bodyPost, results, Tryz.results22, go_sem]
 exact (hB _).trans (hb.mono (hB _).size)
end Go.Mark
/-
 ledger.payable, Allowed at the stripped program.
-/
namespace Go.Mark
open Go.RowKit Go.Proofs
attribute [local go_sem] wd
/-- a word in block r, which may be written -/
structure R4 (w : World) (r n : Nat) : Prop where
 c0 : w.cell? ⟨r, 0, none⟩ = some (.int .u64 (lim n 0))
 c1 : w.cell? ⟨r, 1, none⟩ = some (.int .u64 (lim n 1))
 c2 : w.cell? ⟨r, 2, none⟩ = some (.int .u64 (lim n 2))
 c3 : w.cell? ⟨r, 3, none⟩ = some (.int .u64 (lim n 3))
 fz : ∀ j, w.frozen? ⟨r, j, none⟩ = false
 lt : r < w.heap.size
theorem R4.below {w w' : World} {r n : Nat} (h : R4 w r n) (hb : Below w.heap.size w w') : R4 w' r n :=
 ⟨(hb.cell (p := ⟨r, 0, none⟩) h.lt).trans h.c0, (hb.cell (p := ⟨r, 1, none⟩) h.lt).trans h.c1, (hb.cell (p := ⟨r, 2, none⟩) h.lt).trans h.c2, (hb.cell (p := ⟨r, 3, none⟩) h.lt).trans h.c3, fun j => (hb.frozen (p := ⟨r, j, none⟩) h.lt).trans (h.fz j), Nat.lt_of_lt_of_le h.lt hb.size⟩
/-- what the first ones have together -/
def total (ds : List (AccD × SV)) : Nat := (ds.map (·.1.bal)).sum
theorem total_snoc (ds : List (AccD × SV)) (k : Nat) (h : k < ds.length) : total (ds.take (k + 1)) = total (ds.take k) + ds[k].1.bal := by
 unfold total
 rw [← take_map (fun p : AccD × SV => p.1.bal) ds k h, List.sum_append]
 simp
theorem total_le (ds : List (AccD × SV)) (k : Nat) : total (ds.take k) ≤ total ds := by
 unfold total
 conv => rhs; rw [← List.take_append_drop k ds, List.map_append, List.sum_append]
 omega
set_option maxRecDepth 100000 in
set_option maxHeartbeats 2000000 in
theorem payable (ds : List (AccD × SV)) (b cap : Nat) (w : World) (hA : AccsAt w b 0 ds) (hn : ds.length < 2199023255552) (hm : ∀ p ∈ ds, p.1.bal < M) :
  Calls TryQ.prog 24 #[.slice (some ⟨b, 0, none⟩) ds.length cap] w fun e w' => e = .returned (.bool (decide (total ds < M))) ∧ Below w.heap.size w w' := by
 go_enter TryQ.func24, Tryz.ntmps24
 go_wp2
 go_loopw [9] (fun i wr => ∃ k : Nat, i = .int .i64 k ∧ k ≤ ds.length ∧ total (ds.take k) < M ∧ R4 wr w.heap.size (total (ds.take k)) ∧ Below w.heap.size w wr) (fun i _ => ds.length - (Go.RowKit.intOf i).toNat)
 case atStart =>
  refine ⟨0, rfl, Nat.zero_le _, (by decide : (0 : Nat) < M), ?_, (Below.refl _ _).alloc (Nat.le_refl _) _⟩
  have e : total (ds.take 0) = 0 := rfl
  rw [e]
  have hb : (w.alloc (.cells #[.int .u64 0, .int .u64 0, .int .u64 0, .int .u64 0] 28)).heap[w.heap.size]? = some (.cells #[.int .u64 0, .int .u64 0, .int .u64 0, .int .u64 0] 28) := by show (w.heap.push _)[w.heap.size]? = _; rw [Array.getElem?_push_size]
  constructor
  iterate 4 simp only [World.cell?, hb]; rfl
  ·intro j; simp only [World.frozen?, hb]; simp
  ·simp
 case round =>
  obtain ⟨k, rfl, hk, ht, hR, hB⟩ := hrel
  by_cases hlt : k < ds.length
  ·have hlt' : (k : Int) < (ds.length : Int) := by omega
   have hA' := (hA.below hB) k ds[k] (List.getElem?_eq_getElem hlt)
   rw [Nat.zero_add] at hA'
   have c0 := hA' 0 _ rfl
   have c1 := hA' 1 _ rfl
   have c2 := hA' 2 _ rfl
   have c3 := hA' 3 _ rfl
   have c4 := hA' 4 _ rfl
   have c5 := hA' 5 _ rfl
   have c6 := hA' 6 _ rfl
   have c7 := hA' 7 _ rfl
   rw [Nat.add_zero] at c0
   clear hA'
   obtain ⟨r0, r1, r2, r3, rf, rlt⟩ := hR
   have hbk := hm _ (List.getElem_mem hlt)
   have hts := total_snoc ds k hlt
   go_wp2_with fail
   refine (sum (total (ds.take k)) ds[k].1.bal ht hbk _).mono ?_
   rintro e w1 ⟨rfl, hb1⟩
   have hB1 : Below wr.heap.size wr w1 := ((Below.refl _ _).alloc (Nat.le_refl _) _).trans (hb1.mono (by simp))
   obtain ⟨r0', r1', r2', r3', rf', rlt'⟩ := (R4.mk r0 r1 r2 r3 rf rlt).below hB1
   have hBB : Below w.heap.size w w1 := hB.trans (hB1.mono hB.size)
   clear hb1 hB1 r0 r1 r2 r3 rf rlt c0 c1 c2 c3 c4 c5 c6 c7
   by_cases hov : total (ds.take (k + 1)) < M
   ·have hd0 : (total (ds.take k) + ds[k].1.bal) / M = 0 := Nat.div_eq_of_lt (by omega)
    have hm0 : (total (ds.take k) + ds[k].1.bal) % M = total (ds.take (k + 1)) := by rw [hts]; exact Nat.mod_eq_of_lt (by omega)
    rw [hd0, hm0]
    go_wp2
    go_roundw
    case rel =>
     refine ⟨k + 1, by go_num, by omega, hov, ?_, ?_⟩
     ·rw [hts]
      constructor
      iterate 4 simp [go_sem, *]
      ·intro j; simp [go_sem, rf']
      ·simpa using rlt'
     ·exact (((hBB.setCell (p := ⟨w.heap.size, 0, none⟩) (Nat.le_refl _) _).setCell (p := ⟨w.heap.size, 1, none⟩) (Nat.le_refl _) _).setCell (p := ⟨w.heap.size, 2, none⟩) (Nat.le_refl _) _).setCell (p := ⟨w.heap.size, 3, none⟩) (Nat.le_refl _) _
    case measure => simp [Go.RowKit.intOf]; omega
   ·have hd1 : (total (ds.take k) + ds[k].1.bal) / M = 1 := by
     have : M ≤ total (ds.take k) + ds[k].1.bal := by omega
     rw [Nat.div_eq_iff (by decide)]
     omega
    have hno := total_le ds (k + 1)
    rw [hd1]
    go_wp2
    simp [bodyPost, results, Tryz.results24, go_sem]
    refine ⟨by omega, ?_⟩
    exact (((hBB.setCell (p := ⟨w.heap.size, 0, none⟩) (Nat.le_refl _) _).setCell (p := ⟨w.heap.size, 1, none⟩) (Nat.le_refl _) _).setCell (p := ⟨w.heap.size, 2, none⟩) (Nat.le_refl _) _).setCell (p := ⟨w.heap.size, 3, none⟩) (Nat.le_refl _) _
  ·have hk' : k = ds.length := by omega
   subst hk'
   rw [List.take_length] at ht
   have hd : decide (total ds < M) = true := decide_eq_true ht
   go_wp2
   simp [bodyPost, results, Tryz.results24, go_sem]
   exact ⟨ht, hB⟩
/-- accounts as the program gets them -/
structure Ins (w : World) (b : Nat) (ds : List (AccD × SV)) : Prop where
 acc : AccsAt w b 0 ds
 sl : ∀ p ∈ ds, ∃ bs cap, p.2 = ⟨some ⟨bs, 0, none⟩, p.1.slots.length, cap⟩ ∧ SlotsAt w bs p.1.slots
 bal : ∀ p ∈ ds, p.1.bal < M
 num : ∀ p ∈ ds, p.1.slots.length < 2199023255552
 key : ∀ p ∈ ds, ∀ q ∈ p.1.slots, q.1 < M ∧ q.2 < M
 len : ds.length < 2199023255552
theorem Ins.below {w w' : World} {b : Nat} {ds : List (AccD × SV)} (h : Ins w b ds) (hb : Below w.heap.size w w') : Ins w' b ds :=
 ⟨h.acc.below hb, fun p hp => let ⟨bs, c, h1, h2⟩ := h.sl p hp; ⟨bs, c, h1, h2.below hb⟩, h.bal, h.num, h.key, h.len⟩
/-- a world may be made of them -/
def Sound (ds : List AccD) : Prop := ds.length ≤ 64 ∧ (∀ d ∈ ds, AccOk d) ∧ (ds.map (·.id)).Nodup ∧ (ds.map (·.bal)).sum < M
instance (ds : List AccD) : Decidable (Sound ds) := by unfold Sound; infer_instance
set_option maxRecDepth 100000 in
set_option maxHeartbeats 4000000 in
theorem allowed (ds : List (AccD × SV)) (b cap : Nat) (w : World) (hI : Ins w b ds) :
  Calls TryQ.prog 16 #[.slice (some ⟨b, 0, none⟩) ds.length cap] w fun e w' => e = .returned (.bool (decide (Sound (ds.map (·.1))))) ∧ Below w.heap.size w w' := by
 have hn := hI.len
 by_cases h64 : ds.length ≤ 64
 rotate_left
 ·have h64' : ¬ (ds.length : Int) ≤ 64 := by omega
  have hno : ¬ Sound (ds.map (·.1)) := fun h => h64 (by simpa using h.1)
  go_enter TryQ.func16, Tryz.ntmps16
  go_wp2
  simp [bodyPost, results, Tryz.results16, go_sem]
  exact Below.refl _ _
 have h64' : (ds.length : Int) ≤ 64 := by omega
 go_enter TryQ.func16, Tryz.ntmps16
 go_wp2
 go_loopw [10] (fun i wr => ∃ k : Nat, i = .int .i64 k ∧ k ≤ ds.length ∧ (∀ p ∈ ds.take k, AccOk p.1) ∧ Below w.heap.size w wr) (fun i _ => ds.length - (Go.RowKit.intOf i).toNat)
 case atStart =>
  exact ⟨0, rfl, Nat.zero_le _, by simp, Below.refl _ _⟩
 case round =>
  obtain ⟨k, rfl, hk, hok, hB⟩ := hrel
  by_cases hlt : k < ds.length
  ·have hlt' : (k : Int) < (ds.length : Int) := by omega
   have hmem := List.getElem_mem hlt
   have hA' := (hI.acc.below hB) k ds[k] (List.getElem?_eq_getElem hlt)
   rw [Nat.zero_add] at hA'
   have c0 := hA' 0 _ rfl
   have c1 := hA' 1 _ rfl
   have c2 := hA' 2 _ rfl
   have c3 := hA' 3 _ rfl
   have c4 := hA' 4 _ rfl
   have c5 := hA' 5 _ rfl
   have c6 := hA' 6 _ rfl
   have c7 := hA' 7 _ rfl
   rw [Nat.add_zero] at c0
   clear hA'
   obtain ⟨bs, scap, hsv, hS⟩ := hI.sl _ hmem
   rw [hsv] at c7
   go_wp2_with fail
   have hal := fun (W : World) (hW : SlotsAt W bs ds[k].1.slots) => allowedAcc ds[k].1 bs scap W hW (hI.num _ hmem) (fun q hq => (hI.key _ hmem q hq).1)
   unfold accCells at hal
   refine (hal _ ((hS.below hB).below ((Below.refl _ _).alloc (Nat.le_refl _) _))).mono ?_
   rintro e w1 ⟨rfl, hb1⟩
   have hBB : Below w.heap.size w w1 := hB.trans ((((Below.refl _ _).alloc (Nat.le_refl _) _).trans (hb1.mono (by simp))).mono hB.size)
   clear hal c0 c1 c2 c3 c4 c5 c6 c7 hb1
   by_cases hacc : AccOk ds[k].1
   ·rw [decide_eq_true hacc]
    go_wp2
    go_roundw
    case rel =>
     refine ⟨k + 1, by go_num, by omega, fun p hp => ?_, hBB⟩
     rw [List.take_add_one, List.getElem?_eq_getElem hlt] at hp
     rcases List.mem_append.1 hp with hp | hp
     ·exact hok p hp
     ·simp at hp; rw [hp]; exact hacc
    case measure => simp [Go.RowKit.intOf]; omega
   ·rw [decide_eq_false hacc]
    have hno : ¬ Sound (ds.map (·.1)) := fun h => hacc (h.2.1 _ (List.mem_map_of_mem hmem))
    go_wp2
    simp [bodyPost, results, Tryz.results16, go_sem, hno]
    exact hBB
  ·have hk' : k = ds.length := by omega
   subst hk'
   rw [List.take_length] at hok
   go_wp2_with fail
   refine (diffIDs ds b cap _ (hI.acc.below hB) hn).mono ?_
   rintro e w1 ⟨rfl, hb1⟩
   have hBB : Below w.heap.size w w1 := hB.trans (hb1.mono hB.size)
   have hids : (ds.map (·.1)).map (·.id) = ds.map (·.1.id) := by simp
   have hbal : ((ds.map (·.1)).map (·.bal)).sum = total ds := by simp [total]; rfl
   by_cases hnd : (ds.map (·.1.id)).Nodup
   ·rw [decide_eq_true hnd]
    go_wp2_with fail
    refine (payable ds b cap _ (hI.acc.below hBB) hn hI.bal).mono ?_
    rintro e w2 ⟨rfl, hb2⟩
    have hB2 : Below w.heap.size w w2 := hBB.trans (hb2.mono hBB.size)
    have hs : decide (Sound (ds.map (·.1))) = decide (total ds < M) := by
     by_cases ht : total ds < M
     ·have hS : Sound (ds.map (·.1)) := ⟨by simpa using h64, fun d hd => by obtain ⟨p, hp, rfl⟩ := List.mem_map.1 hd; exact hok p hp, by rw [hids]; exact hnd, by rw [hbal]; exact ht⟩
      rw [decide_eq_true ht, decide_eq_true hS]
     ·have hS : ¬ Sound (ds.map (·.1)) := fun h => ht (by rw [← hbal]; exact h.2.2.2)
      rw [decide_eq_false ht, decide_eq_false hS]
    go_wp2
    have hiff : total ds < M ↔ Sound (ds.map (·.1)) := by
     rw [← decide_eq_true_iff (p := total ds < M), ← hs, decide_eq_true_iff]
    simp [bodyPost, results, Tryz.results16, go_sem]
    exact ⟨hiff, hB2⟩
   ·have hno : ¬ Sound (ds.map (·.1)) := fun h => hnd (by rw [← hids]; exact h.2.2.1)
    rw [decide_eq_false hnd]
    go_wp2
    simp [bodyPost, results, Tryz.results16, go_sem, hno]
    exact hBB
end Go.Mark
/-
 Numbers of sixteen digits: no program in sight.
-/
namespace Go.Mark
open Go.RowKit Go.Proofs
def MM : Nat := 13407807929942597099574024998205846127479365820592393377723561443721764030073546976801874298166903427690031858186486050853753882811946569946433649006084096
def dig (n i : Nat) : Int := ((n / 4294967296 ^ i % 4294967296 : Nat) : Int)
abbrev lg (n : Nat) : Value := .agg #[.int .u64 (dig n 0), .int .u64 (dig n 1), .int .u64 (dig n 2), .int .u64 (dig n 3), .int .u64 (dig n 4), .int .u64 (dig n 5), .int .u64 (dig n 6), .int .u64 (dig n 7), .int .u64 (dig n 8), .int .u64 (dig n 9), .int .u64 (dig n 10), .int .u64 (dig n 11), .int .u64 (dig n 12), .int .u64 (dig n 13), .int .u64 (dig n 14), .int .u64 (dig n 15)]
set_option maxRecDepth 100000 in
set_option maxHeartbeats 1000000 in
theorem dig_nn (n i : Nat) : 0 ≤ dig n i := Int.natCast_nonneg _
set_option maxRecDepth 100000 in
set_option maxHeartbeats 1000000 in
theorem dig_lt (n i : Nat) : dig n i < 4294967296 := by
 have := Nat.mod_lt (n / 4294967296 ^ i) (y := 4294967296) (by decide)
 unfold dig; omega
set_option maxRecDepth 100000 in
set_option maxHeartbeats 1000000 in
theorem dig_z (i : Nat) : dig 0 i = 0 := by unfold dig; simp
def val : List Nat → Nat
 | [] => 0
 | x :: l => x + 4294967296 * val l
end Go.Mark
