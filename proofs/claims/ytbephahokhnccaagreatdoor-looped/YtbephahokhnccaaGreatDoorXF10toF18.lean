import Derived.Test.YtbephahokhnccaaGreatDoorXF1toF4
import Derived.Deep.CutRange
import Derived.Deep.WholeRow
import Derived.Deep.AppendLies
import Derived.Deep.RegionHeldLaw
set_option maxRecDepth 100000
set_option maxHeartbeats 2000000
namespace Go.Mark
open Go.RowKit Go.Proofs
structure AccD where
 id : Int
 bal : Nat
 nonce : Int
 code : ByteArray
 slots : List (Nat × Nat)
structure SV where
 a : Option Addr
 n : Nat
 c : Nat
def accCells (d : AccD) (s : SV) : List Value := [.int .i64 d.id, .int .u64 (lim d.bal 0), .int .u64 (lim d.bal 1), .int .u64 (lim d.bal 2), .int .u64 (lim d.bal 3), .int .i64 d.nonce, .string d.code, .slice s.a s.n s.c]
def CellsAt (w : World) (b o : Nat) (l : List Value) : Prop := ∀ (j : Nat) (v : Value), l[j]? = some v -> w.cell? ⟨b, o + j, none⟩ = some v
def AccsAt (w : World) (b o : Nat) (ds : List (AccD × SV)) : Prop := ∀ (i : Nat) (p : AccD × SV), ds[i]? = some p -> CellsAt w b (o + i * 8) (accCells p.1 p.2)
theorem CellsAt.below {w w' : World} {b o : Nat} {l : List Value} (h : CellsAt w b o l) (hb : Below w.heap.size w w') : CellsAt w' b o l := fun j v hj => by
 have := h j v hj
 have hlt : b < w.heap.size := by
  simp only [World.cell?] at this
  cases hh : w.heap[b]? with
  | none => rw [hh] at this; cases this
  | some o => exact (Array.getElem?_eq_some_iff.1 hh).1
 rw [hb.cell (p := ⟨b, o + j, none⟩) hlt]
 exact this
theorem AccsAt.below {w w' : World} {b o : Nat} {ds : List (AccD × SV)} (h : AccsAt w b o ds) (hb : Below w.heap.size w w') : AccsAt w' b o ds := fun i p hp => (h i p hp).below hb
theorem snoc_ind {α : Type} {P : List α -> Prop} (h0 : P []) (h1 : ∀ l x, P l -> P (l ++ [x])) (l : List α) : P l := by
 have : ∀ l : List α, P l.reverse := by
  intro l
  induction l with
  | nil => exact h0
  | cons x l ih => rw [List.reverse_cons]; exact h1 _ _ ih
 have h := this l.reverse
 rwa [List.reverse_reverse] at h
section
variable {κ : Type} [DecidableEq κ]
def setL (u : Value) (ks : List κ) : List (κ × Value) := ks.foldl (fun l k => updL k u l) []
theorem setL_snoc (u : Value) (ks : List κ) (k : κ) : setL u (ks ++ [k]) = updL k u (setL u ks) := by simp [setL, List.foldl_append]
theorem updL_keys (u : Value) (k : κ) : ∀ l : List (κ × Value), (updL k u l).map (·.1) = if k ∈ l.map (·.1) then l.map (·.1) else l.map (·.1) ++ [k]
 | [] => by simp [updL]
 | p :: l => by
  unfold updL
  by_cases h : k = p.1
  ·simp [h]
  ·rw [if_neg h, List.map_cons, updL_keys u k l]
   by_cases h' : k ∈ l.map (·.1)
   ·rw [if_pos h', if_pos (by simp [h'])]; rfl
   ·rw [if_neg h', if_neg (by simp only [List.map_cons, List.mem_cons, not_or]; exact ⟨h, h'⟩)]
    rfl
theorem setL_mem (u : Value) (ks : List κ) : ∀ k, k ∈ (setL u ks).map (·.1) ↔ k ∈ ks := by
 refine snoc_ind (P := fun ks => ∀ k, k ∈ (setL u ks).map (·.1) ↔ k ∈ ks) (by simp [setL]) (fun ks x ih => ?_) ks
 ·intro k
  rw [setL_snoc, updL_keys]
  split
  ·rename_i h
   rw [ih]
   constructor
   ·intro hk; simp [hk]
   ·intro hk
    rcases List.mem_append.1 hk with hk | hk
    ·exact hk
    ·rw [List.mem_singleton.1 hk]; exact (ih x).1 h
  ·rw [List.mem_append, ih, List.mem_append]
theorem setL_len (u : Value) (ks : List κ) : (setL u ks).length <= ks.length /\ ((setL u ks).length = ks.length ↔ ks.Nodup) := by
 refine snoc_ind (P := fun ks => (setL u ks).length <= ks.length /\ ((setL u ks).length = ks.length ↔ ks.Nodup)) (by simp [setL]) (fun ks x ih => ?_) ks
 ·have hl : (setL u (ks ++ [x])).length = ((setL u (ks ++ [x])).map (·.1)).length := by simp
  rw [hl, setL_snoc, updL_keys]
  split
  ·rename_i h
   rw [setL_mem] at h
   have := ih.1
   simp only [List.length_map, List.length_append, List.length_cons, List.length_nil]
   refine ⟨by omega, ⟨fun e => by omega, fun hn => ?_⟩⟩
   have := (List.nodup_append.1 hn).2.2 x h x (by simp)
   exact absurd rfl this
  ·rename_i h
   rw [setL_mem] at h
   simp only [List.length_append, List.length_map, List.length_cons, List.length_nil]
   refine ⟨by omega, ?_⟩
   rw [List.nodup_append]
   constructor
   ·intro e
    refine ⟨ih.2.1 (by omega), by simp, fun a ha b hb => ?_⟩
    rw [List.mem_singleton.1 hb]
    rintro rfl
    exact h ha
   ·rintro ⟨h1, _, _⟩
    have := ih.2.2 h1
    omega
end
theorem below_setMap {B : Nat} {a w : World} (h : Below B a w) {r : Nat} (hr : B <= r) (o : Obj) : Below B a { w with heap := w.heap.setIfInBounds r o } :=
 ⟨h.os, h.tape, h.output, by simpa using h.size, fun k hk => by rw [Array.getElem?_setIfInBounds_ne (by omega)]; exact h.block k hk⟩
theorem MapL.of_block {κ : Type} {kf : κ -> Value} {w w' : World} {r : Nat} {l : List (κ × Value)} (h : MapL kf w r l) (e : w'.heap[r]? = w.heap[r]?) : MapL kf w' r l := let ⟨es, c, hb, hR⟩ := h; ⟨es, c, e.trans hb, hR⟩
theorem MapL.alloc {κ : Type} {kf : κ -> Value} {w : World} {r : Nat} {l : List (κ × Value)} (h : MapL kf w r l) (o : Obj) : MapL kf (w.alloc o) r l := by
 refine h.of_block ?_
 obtain ⟨_, _, hb, _⟩ := h
 have := (Array.getElem?_eq_some_iff.1 hb).1
 show (w.heap.push o)[r]? = _
 rw [Array.getElem?_push_lt this, Array.getElem?_eq_getElem this]
theorem take_map {α β : Type} (f : α -> β) (l : List α) (k : Nat) (h : k < l.length) : (l.take k).map f ++ [f l[k]] = (l.take (k + 1)).map f := by
 rw [List.take_add_one, List.getElem?_eq_getElem h, List.map_append]
 rfl
theorem upon_mapUpdate {κ : Type} [DecidableEq κ] {kt et mt : TypeId} {kf : κ -> Value} {ok : κ -> Prop} (K : Keys kt kf ok) (hm : TryQ.prog.underlying mt = some (.map kt et)) {W : World} {r : Nat} {l : List (κ × Value)} {k : κ} {v : Value} {o : Oper} {a : Act} {next : Act -> World -> Prop} {Q : Exit -> Act -> World -> Prop} (hM : MapL kf W r l) (hk : ok k) (hl : ∀ p ∈ l, ok p.1)
  (h : ∀ o', MapL kf { W with heap := W.heap.setIfInBounds r o' } r (updL k v l) -> next (a.put o.dst undef) { W with heap := W.heap.setIfInBounds r o' }) :
  Oper.upon TryQ.prog o a next Q ((Sem.run TryQ.prog (Instr.mapUpdate mt (.map (some r)) (kf k) v) W).andThen fun _ w' => .ok .skip w') := by
 obtain ⟨es, clock, hrun, hM'⟩ := run_mapUpdate K hm (v := v) hM hk hl
 rw [hrun]
 exact h _ hM'
theorem run_mkMap {mt kt et : TypeId} (hm : TryQ.prog.underlying mt = some (.map kt et)) (n : Nat) (w : World) : (Instr.makeMap mt (some (.int .i64 n))).run TryQ.prog w = .ok (.map (some w.heap.size)) (w.alloc (.map #[] 0)) := by
 unfold Instr.makeMap
 simp [run_underlying hm, asInt, asIntOf]
end Go.Mark
set_option maxRecDepth 100000
set_option maxHeartbeats 4000000
namespace Go.Mark
open Go.RowKit Go.Proofs
def slotCells (p : Nat × Nat) : List Value := [.int .u64 (lim p.1 0), .int .u64 (lim p.1 1), .int .u64 (lim p.1 2), .int .u64 (lim p.1 3), .int .u64 (lim p.2 0), .int .u64 (lim p.2 1), .int .u64 (lim p.2 2), .int .u64 (lim p.2 3)]
def SlotsAt (w : World) (b : Nat) (ss : List (Nat × Nat)) : Prop := ∀ (i : Nat) (p : Nat × Nat), ss[i]? = some p -> CellsAt w b (i * 8) (slotCells p)
theorem setL_sub {κ : Type} [DecidableEq κ] {ok : κ -> Prop} (u : Value) (ks : List κ) (h : ∀ k ∈ ks, ok k) : ∀ p ∈ setL u ks, ok p.1 := fun p hp => h _ ((setL_mem u ks p.1).1 (List.mem_map_of_mem hp))
def AccOk (d : AccD) : Prop := 1 <= d.id /\ d.id <= 999999 /\ 0 <= d.nonce /\ d.nonce <= 4611686018427387904 /\ (d.code.size : Int) <= 2000 /\ (d.slots.length : Int) <= 64 /\ (d.slots.map (·.1)).Nodup
instance (d : AccD) : Decidable (AccOk d) := by unfold AccOk; infer_instance
end Go.Mark
set_option maxRecDepth 100000
set_option maxHeartbeats 4000000
namespace Go.Mark
open Go.RowKit Go.Proofs
attribute [local go_sem] wd
structure R4 (w : World) (r n : Nat) : Prop where
 c0 : w.cell? ⟨r, 0, none⟩ = some (.int .u64 (lim n 0))
 c1 : w.cell? ⟨r, 1, none⟩ = some (.int .u64 (lim n 1))
 c2 : w.cell? ⟨r, 2, none⟩ = some (.int .u64 (lim n 2))
 c3 : w.cell? ⟨r, 3, none⟩ = some (.int .u64 (lim n 3))
 fz : ∀ j, w.frozen? ⟨r, j, none⟩ = false
 lt : r < w.heap.size
theorem R4.below {w w' : World} {r n : Nat} (h : R4 w r n) (hb : Below w.heap.size w w') : R4 w' r n :=
 ⟨(hb.cell (p := ⟨r, 0, none⟩) h.lt).trans h.c0, (hb.cell (p := ⟨r, 1, none⟩) h.lt).trans h.c1, (hb.cell (p := ⟨r, 2, none⟩) h.lt).trans h.c2, (hb.cell (p := ⟨r, 3, none⟩) h.lt).trans h.c3, fun j => (hb.frozen (p := ⟨r, j, none⟩) h.lt).trans (h.fz j), Nat.lt_of_lt_of_le h.lt hb.size⟩
def total (ds : List (AccD × SV)) : Nat := (ds.map (·.1.bal)).sum
theorem total_snoc (ds : List (AccD × SV)) (k : Nat) (h : k < ds.length) : total (ds.take (k + 1)) = total (ds.take k) + ds[k].1.bal := by
 unfold total
 rw [<- take_map (fun p : AccD × SV => p.1.bal) ds k h, List.sum_append]
 simp
theorem total_le (ds : List (AccD × SV)) (k : Nat) : total (ds.take k) <= total ds := by
 unfold total
 conv => rhs; rw [<- List.take_append_drop k ds, List.map_append, List.sum_append]
 omega
structure Ins (w : World) (b : Nat) (ds : List (AccD × SV)) : Prop where
 acc : AccsAt w b 0 ds
 sl : ∀ p ∈ ds, ∃ bs cap, p.2 = ⟨some ⟨bs, 0, none⟩, p.1.slots.length, cap⟩ /\ SlotsAt w bs p.1.slots
 bal : ∀ p ∈ ds, p.1.bal < M
 num : ∀ p ∈ ds, p.1.slots.length < 2199023255552
 key : ∀ p ∈ ds, ∀ q ∈ p.1.slots, q.1 < M /\ q.2 < M
 len : ds.length < 2199023255552
def Sound (ds : List AccD) : Prop := ds.length <= 64 /\ (∀ d ∈ ds, AccOk d) /\ (ds.map (·.id)).Nodup /\ (ds.map (·.bal)).sum < M
instance (ds : List AccD) : Decidable (Sound ds) := by unfold Sound; infer_instance
end Go.Mark
set_option maxRecDepth 100000
set_option maxHeartbeats 1000000
namespace Go.Mark
open Go.RowKit Go.Proofs
def MM : Nat := 13407807929942597099574024998205846127479365820592393377723561443721764030073546976801874298166903427690031858186486050853753882811946569946433649006084096
def dig (n i : Nat) : Int := ((n / 4294967296 ^ i % 4294967296 : Nat) : Int)
abbrev lg (n : Nat) : Value := .agg #[.int .u64 (dig n 0), .int .u64 (dig n 1), .int .u64 (dig n 2), .int .u64 (dig n 3), .int .u64 (dig n 4), .int .u64 (dig n 5), .int .u64 (dig n 6), .int .u64 (dig n 7), .int .u64 (dig n 8), .int .u64 (dig n 9), .int .u64 (dig n 10), .int .u64 (dig n 11), .int .u64 (dig n 12), .int .u64 (dig n 13), .int .u64 (dig n 14), .int .u64 (dig n 15)]
def val : List Nat -> Nat
 | [] => 0
 | x :: l => x + 4294967296 * val l
end Go.Mark
set_option maxRecDepth 100000
set_option maxHeartbeats 1000000
namespace Go.Mark
open Go.RowKit Go.Proofs
attribute [local go_sem] wd lg
end Go.Mark
set_option maxRecDepth 100000
set_option maxHeartbeats 1000000
namespace Go.Mark
open Go.RowKit Go.Proofs
structure Row16 (W : World) (b : Nat) (x0 x1 x2 x3 x4 x5 x6 x7 x8 x9 x10 x11 x12 x13 x14 x15 : Int) : Prop where
 c0 : W.cell? ⟨b, 0, none⟩ = some (.int .u64 x0)
 c1 : W.cell? ⟨b, 1, none⟩ = some (.int .u64 x1)
 c2 : W.cell? ⟨b, 2, none⟩ = some (.int .u64 x2)
 c3 : W.cell? ⟨b, 3, none⟩ = some (.int .u64 x3)
 c4 : W.cell? ⟨b, 4, none⟩ = some (.int .u64 x4)
 c5 : W.cell? ⟨b, 5, none⟩ = some (.int .u64 x5)
 c6 : W.cell? ⟨b, 6, none⟩ = some (.int .u64 x6)
 c7 : W.cell? ⟨b, 7, none⟩ = some (.int .u64 x7)
 c8 : W.cell? ⟨b, 8, none⟩ = some (.int .u64 x8)
 c9 : W.cell? ⟨b, 9, none⟩ = some (.int .u64 x9)
 c10 : W.cell? ⟨b, 10, none⟩ = some (.int .u64 x10)
 c11 : W.cell? ⟨b, 11, none⟩ = some (.int .u64 x11)
 c12 : W.cell? ⟨b, 12, none⟩ = some (.int .u64 x12)
 c13 : W.cell? ⟨b, 13, none⟩ = some (.int .u64 x13)
 c14 : W.cell? ⟨b, 14, none⟩ = some (.int .u64 x14)
 c15 : W.cell? ⟨b, 15, none⟩ = some (.int .u64 x15)
 fz : ∀ j, j < 16 -> W.frozen? ⟨b, j, none⟩ = false
theorem below_setCells (b : Nat) : ∀ (vs : List Value) (o : Nat) (B : Nat) (a w : World), Below B a w -> B <= b -> Below B a (w.setCells b o vs)
 | [], _, _, _, _, h, _ => h
 | v :: r, o, B, a, w, h, hb => by
  rw [World.setCells]
  exact below_setCells b r (o + 1) B a _ (h.setCell (p := ⟨b, o, none⟩) hb v) hb
theorem size_setCells (b : Nat) : ∀ (vs : List Value) (o : Nat) (w : World), (w.setCells b o vs).heap.size = w.heap.size
 | [], _, _ => rfl
 | v :: r, o, w => by
  rw [World.setCells, size_setCells b r]
  simp
def dl (n : Nat) : List Value := [.int .u64 (dig n 0), .int .u64 (dig n 1), .int .u64 (dig n 2), .int .u64 (dig n 3), .int .u64 (dig n 4), .int .u64 (dig n 5), .int .u64 (dig n 6), .int .u64 (dig n 7), .int .u64 (dig n 8), .int .u64 (dig n 9), .int .u64 (dig n 10), .int .u64 (dig n 11), .int .u64 (dig n 12), .int .u64 (dig n 13), .int .u64 (dig n 14), .int .u64 (dig n 15)]
def lv (n : Nat) : Value := .agg (dl n).toArray
theorem lv_lg (n : Nat) : lv n = lg n := rfl
theorem lv_dl (n : Nat) : lv n = .agg (dl n).toArray := rfl
theorem dl_len (n : Nat) : (dl n).length = 16 := rfl
theorem i34 : (TryQ.prog.info? 148).map (·.size) = some 16 := by kernel_rfl
structure LL (l : List Value) : Prop where
 len : l.length = 16
 one : l.toArray.all (·.oneCell') = true
structure LH (W : World) (b : Nat) (l : List Value) : Prop where
 r : W.rangeAt b 0 l
 t : W.there b 0 16
 z : b < W.heap.size
end Go.Mark
set_option maxRecDepth 100000
set_option maxHeartbeats 1000000
namespace Go.Mark
open Go.RowKit Go.Proofs
def mix (s a k : Nat) : List Value := (dl s).take k ++ (dl a).drop k
def cyP (a b k : Nat) : Nat := (a % 4294967296 ^ k + b % 4294967296 ^ k) / 4294967296 ^ k
theorem digN (n k : Nat) : dig n k = ((n / 4294967296 ^ k % 4294967296 : Nat) : Int) := rfl
end Go.Mark
set_option maxRecDepth 100000
set_option maxHeartbeats 1000000
namespace Go.Mark
open Go.RowKit Go.Proofs
end Go.Mark
set_option maxRecDepth 100000
set_option maxHeartbeats 4000000
/-! The document's own answer: may a world be made of these? (purserref.sound) -/
namespace Go.Mark
open Go.RowKit Go.Proofs
theorem take_d {P : Program} {ops : Array Oper} {Q : Exit -> Act -> World -> Prop} {md : Region.Mode} {S : World -> Prop} {i : Nat} {oi : Oper} {d : Option Tmp} {v : Value} {fuel : Nat} {listed : Array Bool} {a : Act} {w : World} (hi : ops[i]? = some oi) (hd : oi.dst = d)
    (hs : Region.noSelect ops = true) (hf : Region.free md ops listed i = true) (hr : (Region.ready md ops listed).contains i = true)
    (hQ : ∀ c a w, Q (.panic c) (a.put oi.dst v) w -> Q (.panic c) a w) (hy : YieldsIf P ops S oi v a) (hS : S w)
    (h : wpAnyH P md ops Q S fuel (listed.setIfInBounds i true) (a.put d v) w) : wpAnyH P md ops Q S (fuel + 1) listed a w := by
  subst hd
  exact wpAnyH_take hi hs hf hr hQ hy hS h
theorem td {P : Program} {ops : Array Oper} {Q : Exit -> Act -> World -> Prop} {md : Region.Mode} {S : World -> Prop} {i : Nat} {oi : Oper} {d : Option Tmp} {v : Value} {fuel : Nat} {listed : Array Bool} {a a' : Act} {w : World} (hi : ops[i]? = some oi) (hd : oi.dst = d)
    (hy : ∀ w, S w -> (execOp a.eval oi).run P w = .ok (.value v) w) (hS : S w) (h : wpAnyH P md ops Q S fuel (listed.setIfInBounds i true) a' w)
    (hs : Region.noSelect ops = true := by kernel_rfl) (hf : Region.free md ops listed i = true := by kernel_rfl) (hr : (Region.ready md ops listed).contains i = true := by kernel_rfl)
    (hQ : ∀ c a w, Q (.panic c) (a.put oi.dst v) w -> Q (.panic c) a w := by intro _ _ _ h; first | exact h | cases h.1) (hw : Region.wanted oi (yielded ops a.tmps) = true := by rfl) (hp : a.put d v = a' := by (simp only [Act.put, List.setIfInBounds_toArray, List.set_cons_zero, List.set_cons_succ]; try rfl)) : wpAnyH P md ops Q S (fuel + 1) listed a w := by
  subst hp
  exact take_d hi hd hs hf hr hQ (Or.inl ⟨hw, hy⟩) hS h
theorem ba {w : World} {o : Obj} : Below w.heap.size w (w.alloc o) := (Below.refl _ _).alloc (Nat.le_refl _) o
theorem r1 {P : Program} {ops : Array Oper} {Q : Exit -> Act -> World -> Prop} {md : Region.Mode} {S : World -> Prop} {fuel : Nat} {listed : Array Bool} {a : Act} {w : World} {i : Nat} {o : Oper} (ho : ops[i]? = some o)
 (h : ∀ K' : Act -> World -> Prop, Shut (∀ a w, S w -> (S w -> wpAnyH P md ops Q S fuel (listed.setIfInBounds i true) a w) -> K' a w) -> if Region.wanted o (yielded ops a.tmps) = true then Oper.wp P o a w K' Q else K' (a.put o.dst undef) w)
 (hr : Region.ready md ops listed = [i] := by kernel_rfl) : wpAnyH P md ops Q S (fuel + 1) listed a w := wpAnyH_ready hr (by simp) (AllReadyH.cons ho h AllReadyH.nil)
theorem wp_meet {P : Program} {c : Code} {a : Act} {w : World} {Q : Exit -> Act -> World -> Prop} (R : World -> Prop) (h : ∃ A, c.wp P (fun e a' W => e = .normal /\ a' = A /\ R W) a w /\ ∀ W, R W -> Q .normal A W) : c.wp P Q a w :=
  let ⟨_, h1, h2⟩ := h
  Code.wp_mono (fun _ _ _ ⟨e1, e2, hR⟩ => by subst e1 e2; exact h2 _ hR) h1
def SlotsFrom (w : World) (b o : Nat) (ss : List (Nat × Nat)) : Prop := ∀ (i : Nat) (p : Nat × Nat), ss[i]? = some p -> CellsAt w b (o + i * 8) (slotCells p)
theorem SlotsFrom.below {w w' : World} {b o : Nat} {ss : List (Nat × Nat)} (h : SlotsFrom w b o ss) (hb : Below w.heap.size w w') : SlotsFrom w' b o ss := fun i p hp => (h i p hp).below hb
structure InR (w : World) (a : Option Addr) (ds : List (AccD × SV)) : Prop where
  acc : ds = [] \/ ∃ b o, a = some ⟨b, o, none⟩ /\ AccsAt w b o ds
  sl : ∀ p ∈ ds, p.2.n = p.1.slots.length /\ (p.1.slots = [] \/ ∃ bs os, p.2.a = some ⟨bs, os, none⟩ /\ SlotsFrom w bs os p.1.slots)
  bal : ∀ p ∈ ds, p.1.bal < M
  num : ∀ p ∈ ds, p.1.slots.length < 2199023255552
  key : ∀ p ∈ ds, ∀ q ∈ p.1.slots, q.1 < M /\ q.2 < M
  len : ds.length < 2199023255552
theorem InR.below {w w' : World} {a : Option Addr} {ds : List (AccD × SV)} (h : InR w a ds) (hb : Below w.heap.size w w') : InR w' a ds :=
  ⟨h.acc.imp id fun ⟨b, o, h1, h2⟩ => ⟨b, o, h1, h2.below hb⟩, fun p hp => ⟨(h.sl p hp).1, (h.sl p hp).2.imp id fun ⟨b, o, h1, h2⟩ => ⟨b, o, h1, h2.below hb⟩⟩, h.bal, h.num, h.key, h.len⟩
structure SW (w W : World) (t b5 : Nat) (l : List Value) : Prop where
  below : Below w.heap.size w W
  tot : LH W w.heap.size (dl t)
  x : CellsAt W b5 0 l
  lt : w.heap.size < b5
theorem cells_new (W : World) (l : List Value) (ty : TypeId) : CellsAt (W.alloc (.cells l.toArray ty)) W.heap.size 0 l := fun j v hj => by
  rw [Nat.zero_add]
  rw [World.cell?_alloc_new]; simpa using hj
end Go.Mark
set_option maxRecDepth 100000
set_option maxHeartbeats 2000000
/-! The law's room: slots copied into a row of one's own, eight more behind them. -/
namespace Go.Mark
open Go.RowKit Go.Proofs
def flatS : List (Nat × Nat) -> List Value
 | [] => []
 | p :: ss => slotCells p ++ flatS ss
theorem flatS_len : ∀ ss : List (Nat × Nat), (flatS ss).length = ss.length * 8
 | [] => rfl
 | p :: ss => by
  have h : (slotCells p).length = 8 := rfl
  rw [flatS, List.length_append, flatS_len ss, h, List.length_cons]; omega
theorem flatS_one : ∀ (ss : List (Nat × Nat)), ∀ v ∈ flatS ss, v.oneCell' = true
 | [], v, hv => by cases hv
 | p :: ss, v, hv => by
  rcases List.mem_append.1 hv with h | h
  ·simp only [slotCells, List.mem_cons, List.not_mem_nil, or_false] at h
   rcases h with h | h | h | h | h | h | h | h <;> rw [h] <;> rfl
  ·exact flatS_one ss v h
theorem there_new (w : World) (Z : Array Value) (ty : TypeId) : (w.alloc (.cells Z ty)).there w.heap.size 0 Z.size := fun j hj => by
 rw [Nat.zero_add]
 refine ⟨?_, ?_⟩
 ·rw [World.cell?_alloc_new]; simp [hj]
 ·simp [go_sem]
abbrev s78 : Nat × Nat := (77, 78)
end Go.Mark
set_option maxRecDepth 100000
set_option maxHeartbeats 4000000
/-! The law's still: does it read as it did? -/
namespace Go.Mark
open Go.RowKit Go.Proofs
theorem gb_refl (w : World) (r : Option Nat) : w.grownBy w r := ⟨rfl, rfl, rfl, Nat.le_refl _, fun _ _ _ => rfl⟩
theorem gb_set {w : World} {g : Nat} : ∀ (vs : List Value) (o : Nat) (W : World), w.grownBy W (some g) -> w.grownBy (W.setCells g o vs) (some g)
 | [], _, _, h => h
 | v :: vs, o, W, h => gb_set vs (o + 1) (W.setCell ⟨g, o, none⟩ v) ⟨h.os, h.tape, h.output, by simpa [World.setCell] using h.size, fun k hk hr => (Below.heap_setCell _ _ _ _ (by intro e; exact hr (by rw [e]))).trans (h.block k hk hr)⟩
abbrev s99 : Nat × Nat := (99, 99)
end Go.Mark
/-! The document's New. -/
namespace Go.Mark
open Go.RowKit Go.Proofs
theorem wp_meet2 {P : Program} {c : Code} {a : Act} {w : World} {Q : Exit -> Act -> World -> Prop} (R : Nat -> Nat -> World -> Prop) (h : ∃ A : Nat -> Nat -> Act, c.wp P (fun e a' W => e = .normal /\ ∃ g n, a' = A g n /\ R g n W) a w /\ ∀ g n W, R g n W -> Q .normal (A g n) W) : c.wp P Q a w :=
 let ⟨_, h1, h2⟩ := h
 Code.wp_mono (fun _ _ _ ⟨e1, _, _, e2, hR⟩ => by subst e1 e2; exact h2 _ _ _ hR) h1
theorem own_ge {W : World} {base size n : Nat} {e : TypeId} {v : Value} {xs : List Value} (h : W.ownsRow base e size v n xs) : ∀ g, v.ownBlock = some g -> base <= g := fun g hg => by
 rcases h.2 with ⟨rfl, _⟩ | ⟨g', cap, cur, rfl, hb, _⟩
 ·cases hg
 ·cases hg; exact hb
theorem own_below {W W' : World} {base size n : Nat} {e : TypeId} {v : Value} {xs : List Value} (h : W.ownsRow base e size v n xs) (hb : Below W.heap.size W W') : W'.ownsRow base e size v n xs := by
 refine ⟨h.1, h.2.imp id ?_⟩
 rintro ⟨g, cap, cur, h1, h2, h3, h4⟩
 exact ⟨g, cap, cur, h1, h2, (hb.block g (Array.getElem?_eq_some_iff.1 h3).1).trans h3, h4⟩
theorem gb_to_below {W W' : World} {r : Option Nat} {B : Nat} (h : W.grownBy W' r) (hr : ∀ g, r = some g -> B <= g) (hB : B <= W.heap.size) : Below B W W' :=
 ⟨h.os, h.tape, h.output, h.size, fun k hk => h.block k (by omega) (fun e => by have := hr k e.symm; omega)⟩
theorem info57 : ∃ i z, TryQ.prog.info? 72 = some i /\ i.zero = some z /\ i.size = 8 /\ i.bytes = 64 /\ z.cells.size = 8 := by
 have e8 : (TryQ.prog.info? 72).map (·.size) = some 8 := by kernel_rfl
 have e64 : (TryQ.prog.info? 72).map (·.bytes) = some 64 := by kernel_rfl
 have ez : ((TryQ.prog.info? 72).bind (·.zero)).map (·.cells.size) = some 8 := by kernel_rfl
 obtain ⟨i, hi⟩ : ∃ i, TryQ.prog.info? 72 = some i := by
  cases h : TryQ.prog.info? 72 with
  | none => rw [h] at e8; cases e8
  | some i => exact ⟨i, rfl⟩
 rw [hi] at e8 e64 ez
 replace ez : i.zero.map (·.cells.size) = some 8 := ez
 cases hz : i.zero with
 | none => rw [hz] at ez; cases ez
 | some z => rw [hz] at ez; exact ⟨i, z, hi, hz, Option.some.inj e8, Option.some.inj e64, Option.some.inj ez⟩
theorem own_lt {W : World} {base size n : Nat} {e : TypeId} {v : Value} {xs : List Value} (h : W.ownsRow base e size v n xs) : ∀ g, v.ownBlock = some g -> g < W.heap.size := fun g hg => by
 rcases h.2 with ⟨rfl, _⟩ | ⟨g', cap, cur, rfl, _, hb, _⟩
 ·cases hg
 ·cases hg; exact (Array.getElem?_eq_some_iff.1 hb).1
theorem own_grown {W W' : World} {base size n : Nat} {e : TypeId} {v : Value} {xs : List Value} {r : Option Nat} (h : W.ownsRow base e size v n xs) (hg : W.grownBy W' r) (hr : ∀ g, v.ownBlock = some g -> r ≠ some g) : W'.ownsRow base e size v n xs := by
 have hl := own_lt h
 refine ⟨h.1, h.2.imp id ?_⟩
 rintro ⟨g, cap, cur, h1, h2, h3, h4⟩
 subst h1
 exact ⟨g, cap, cur, rfl, h2, (hg.block g (hl g rfl) (fun e => hr g rfl e.symm)).trans h3, h4⟩
theorem own_base {W : World} {base base' size n : Nat} {e : TypeId} {v : Value} {xs : List Value} (h : W.ownsRow base e size v n xs) (hb : base' <= base) : W.ownsRow base' e size v n xs :=
 ⟨h.1, h.2.imp id fun ⟨g, cap, cur, h1, h2, h3⟩ => ⟨g, cap, cur, h1, Nat.le_trans hb h2, h3⟩⟩
theorem info31 : ∃ i z, TryQ.prog.info? 52 = some i /\ i.zero = some z /\ i.size = 8 /\ i.bytes = 88 /\ z.cells.size = 8 := by
 have e8 : (TryQ.prog.info? 52).map (·.size) = some 8 := by kernel_rfl
 have e64 : (TryQ.prog.info? 52).map (·.bytes) = some 88 := by kernel_rfl
 have ez : ((TryQ.prog.info? 52).bind (·.zero)).map (·.cells.size) = some 8 := by kernel_rfl
 obtain ⟨i, hi⟩ : ∃ i, TryQ.prog.info? 52 = some i := by
  cases h : TryQ.prog.info? 52 with
  | none => rw [h] at e8; cases e8
  | some i => exact ⟨i, rfl⟩
 rw [hi] at e8 e64 ez
 replace ez : i.zero.map (·.cells.size) = some 8 := ez
 cases hz : i.zero with
 | none => rw [hz] at ez; cases ez
 | some z => rw [hz] at ez; exact ⟨i, z, hi, hz, Option.some.inj e8, Option.some.inj e64, Option.some.inj ez⟩
def flatA : List (AccD × SV) -> List Value
 | [] => []
 | p :: es => accCells p.1 p.2 ++ flatA es
theorem acc_one (d : AccD) (s : SV) : ∀ v ∈ accCells d s, v.oneCell' = true := fun v h => by
 simp only [accCells, List.mem_cons, List.not_mem_nil, or_false] at h
 rcases h with h | h | h | h | h | h | h | h <;> rw [h] <;> rfl
theorem flatA_append : ∀ (a b : List (AccD × SV)), flatA (a ++ b) = flatA a ++ flatA b
 | [], _ => rfl
 | p :: a, b => by rw [List.cons_append, flatA, flatA, flatA_append a b, List.append_assoc]
def kept (ss : List (Nat × Nat)) : List (Nat × Nat) := ss.filter fun q => decide (q.2 ≠ 0)
theorem kept_snoc (ss : List (Nat × Nat)) (c : Nat) (hc : c < ss.length) (h : ¬ ss[c].2 = 0) : kept (ss.take (c + 1)) = kept (ss.take c) ++ [ss[c]] := by
 have e : List.filter (fun q : Nat × Nat => decide (q.2 ≠ 0)) [ss[c]] = [ss[c]] := by simp [List.filter, h]
 unfold kept
 rw [<- List.take_append_getElem hc, List.filter_append, e]
theorem kept_skip (ss : List (Nat × Nat)) (c : Nat) (hc : c < ss.length) (h : ss[c].2 = 0) : kept (ss.take (c + 1)) = kept (ss.take c) := by
 have e : List.filter (fun q : Nat × Nat => decide (q.2 ≠ 0)) [ss[c]] = [] := by simp [List.filter, h]
 unfold kept
 rw [<- List.take_append_getElem hc, List.filter_append, e, List.append_nil]
theorem flatS_append : ∀ (a b : List (Nat × Nat)), flatS (a ++ b) = flatS a ++ flatS b
 | [], _ => rfl
 | p :: a, b => by rw [List.cons_append, flatS, flatS, flatS_append a b, List.append_assoc]
abbrev Xs (W V : World) (d : AccD) (vS : SV) (c : Nat) : Prop := Below V.heap.size V W /\ V.heap.size < W.heap.size /\ CellsAt W V.heap.size 0 (accCells d vS) /\ W.there V.heap.size 0 8 /\ W.ownsRow (V.heap.size + 1) 72 8 (.slice vS.a vS.n vS.c) (kept (d.slots.take c)).length (flatS (kept (d.slots.take c)))
def kp (d : AccD) : AccD := { d with slots := kept d.slots }
structure Ys (w W : World) (pb : Nat) (ds : List (AccD × SV)) (k : Nat) (vA : SV) (es : List (AccD × SV)) : Prop where
 below : Below w.heap.size w W
 lo : w.heap.size <= pb
 lt : pb < W.heap.size
 cell : W.cell? ⟨pb, 0, none⟩ = some (.slice vA.a vA.n vA.c)
 rest : CellsAt W pb 1 [.int .i64 0, .slice none 0 0, .int .i64 0, .slice none 0 0]
 fz : W.frozen? ⟨pb, 0, none⟩ = false
 own : W.ownsRow (pb + 1) 52 8 (.slice vA.a vA.n vA.c) k (flatA es)
 lst : es.map (·.1) = (ds.take k).map fun p => kp p.1
 sl : ∀ p ∈ es, W.ownsRow (pb + 1) 72 8 (.slice p.2.a p.2.n p.2.c) p.1.slots.length (flatS p.1.slots) /\ ∀ g, (Value.slice p.2.a p.2.n p.2.c).ownBlock = some g -> (Value.slice vA.a vA.n vA.c).ownBlock ≠ some g
theorem eqz (n : Nat) (h : n < M) (W : World) : (Op.equalIn 10000 41 (wd n) (.agg #[.int .u64 0, .int .u64 0, .int .u64 0, .int .u64 0])).run TryQ.prog W = .ok (decide (n = 0)) W := by
 have := run_eqw n 0 h (by decide) W
 have e : wd 0 = .agg #[.int .u64 0, .int .u64 0, .int .u64 0, .int .u64 0] := by simp [wd, lim]
 rw [e] at this
 exact this
end Go.Mark
set_option maxRecDepth 100000
set_option maxHeartbeats 2000000
/-! ledger.keptSlots: the slots of an account as a map. -/
namespace Go.Mark
open Go.RowKit Go.Proofs
theorem updL_new {κ : Type} [DecidableEq κ] (k : κ) (v : Value) : ∀ l : List (κ × Value), k ∉ l.map (·.1) -> updL k v l = l ++ [(k, v)]
 | [], _ => rfl
 | p :: l, h => by
  have h1 : k ≠ p.1 := fun e => h (by simp [e])
  have h2 : k ∉ l.map (·.1) := fun e => h (by rw [List.map_cons]; exact List.mem_cons_of_mem _ e)
  rw [updL, if_neg h1, updL_new k v l h2]
  rfl
def keptL (ss : List (Nat × Nat)) : List (Nat × Value) := (kept ss).map fun q => (q.1, wd q.2)
theorem keptL_mem (ss : List (Nat × Nat)) (k : Nat) (h : k ∈ (keptL ss).map (·.1)) : ∃ q ∈ ss, q.1 = k := by
 simp only [keptL, List.map_map] at h
 obtain ⟨q, hq, rfl⟩ := List.mem_map.1 h
 exact ⟨q, (List.mem_filter.1 hq).1, rfl⟩
theorem run_mkMap0 {mt : TypeId} (w : World) : (Instr.makeMap mt none).run TryQ.prog w = .ok (.map (some w.heap.size)) (w.alloc (.map #[] 0)) := by
 unfold Instr.makeMap
 simp
end Go.Mark
