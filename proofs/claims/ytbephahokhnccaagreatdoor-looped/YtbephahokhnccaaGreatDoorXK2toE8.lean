import Derived.Test.YtbephahokhnccaaGreatDoorXG1toK3
import Derived.Shelf.Strconv.Clone
set_option linter.unusedSectionVars false
namespace Go.Mark
open Go.RowKit Go.Proofs
class BaseB where
 b0 : Nat
variable [BaseB]
structure Pres (B : List Nat) (T : List TypeId) (w w' : World) : Prop where
 os : w'.os = w.os
 tape : w'.tape = w.tape
 output : w'.output = w.output
 size : w.heap.size <= w'.heap.size
 block : ∀ k, k < w.heap.size -> k ∉ B -> w'.heap[k]? = w.heap[k]? \/ ∃ t c c', t ∈ T /\ BaseB.b0 <= k /\ w.heap[k]? = some (.cells c t (0, 0)) /\ w'.heap[k]? = some (.cells c' t (0, 0))
theorem Pres.refl (B : List Nat) (T : List TypeId) (w : World) : Pres B T w w := ⟨rfl, rfl, rfl, Nat.le_refl _, fun _ _ _ => .inl rfl⟩
theorem Pres.mono {B B' : List Nat} {T T' : List TypeId} {w w' : World} (h : Pres B T w w') (hB : ∀ k, k < w.heap.size -> k ∈ B -> k ∈ B') (hT : ∀ t ∈ T, t ∈ T') : Pres B' T' w w' :=
 ⟨h.os, h.tape, h.output, h.size, fun k hk hn => (h.block k hk (fun e => hn (hB k hk e))).imp id fun ⟨t, c, c', ht, h1, h2⟩ => ⟨t, c, c', hT t ht, h1, h2⟩⟩
theorem Pres.trans {B : List Nat} {T : List TypeId} {w v u : World} (h : Pres B T w v) (h' : Pres B T v u) : Pres B T w u := by
 refine ⟨h'.os.trans h.os, h'.tape.trans h.tape, h'.output.trans h.output, Nat.le_trans h.size h'.size, fun k hk hn => ?_⟩
 rcases h.block k hk hn with e | ⟨t, c, c', ht, hb, h1, h2⟩
 ·rcases h'.block k (Nat.lt_of_lt_of_le hk h.size) hn with e' | ⟨t, c, c', ht, hb, h1, h2⟩
  ·exact .inl (e'.trans e)
  ·exact .inr ⟨t, c, c', ht, hb, e.symm.trans h1, h2⟩
 ·rcases h'.block k (Nat.lt_of_lt_of_le hk h.size) hn with e' | ⟨t', d, d', ht', _, h3, h4⟩
  ·exact .inr ⟨t, c, c', ht, hb, h1, e'.trans h2⟩
  ·rw [h2] at h3
   cases h3
   exact .inr ⟨t, c, d', ht, hb, h1, h4⟩
theorem Pres.of_below {w w' : World} (h : Below w.heap.size w w') (B : List Nat) (T : List TypeId) : Pres B T w w' := ⟨h.os, h.tape, h.output, h.size, fun k hk _ => .inl (h.block k hk)⟩
theorem Pres.setCell (w : World) (b i : Nat) (v : Value) : Pres [b] [] w (w.setCell ⟨b, i, none⟩ v) := by
 have h := kept_setCell w ⟨b, i, none⟩ v
 exact ⟨h.os, h.tape, h.output, h.size, fun k hk hn => .inl (h.block k hk (fun e => hn (by simp only [List.mem_singleton]; exact e)))⟩
theorem own_low {w : World} {base size n : Nat} {e : TypeId} {v : Value} {xs : List Value} (h : w.ownsRow base e size v n xs) (k : Nat) (hv : v.ownBlock = some k) : base <= k := by
 rcases h.2 with ⟨rfl, _⟩ | ⟨g, cap, cur, rfl, hb, _⟩
 ·cases hv
 ·cases hv; exact hb
theorem Pres.floor {B : List Nat} {T : List TypeId} {w w' : World} (h : Pres B T w w') {k : Nat} (hk : k < BaseB.b0) (hw : k < w.heap.size) (hB : k ∉ B) : w'.heap[k]? = w.heap[k]? :=
 (h.block k hw hB).elim id fun ⟨_, _, _, _, hb, _⟩ => by omega
theorem Pres.grown {w w' : World} {size n : Nat} {e : TypeId} {v : Value} {xs : List Value} {n' : Nat} {xs' : List Value} {base' : Nat} (h : w.grownBy w' v.ownBlock) (h1 : w.ownsRow BaseB.b0 e size v n xs) (h3 : w'.ownsRow base' e size v n' xs') : Pres [] [e] w w' := by
 have hk := kept_grown h
 refine ⟨hk.os, hk.tape, hk.output, hk.size, fun k hlt _ => ?_⟩
 by_cases hv : v.ownBlock = some k
 ·obtain ⟨c, hc⟩ := own_type h1 k hv
  obtain ⟨c', hc'⟩ := own_type h3 k hv
  exact .inr ⟨e, c, c', by simp, own_low h1 k hv, hc, hc'⟩
 ·exact .inl (hk.block k hlt hv)
def Other (T : List TypeId) : Obj -> Prop
 | .cells _ t _ => t ∉ T
 | _ => True
theorem Pres.obj {B : List Nat} {T : List TypeId} {w w' : World} (h : Pres B T w w') {k : Nat} {o : Obj} (ho : w.heap[k]? = some o) (hT : Other T o) (hB : k ∉ B) : w'.heap[k]? = some o := by
 have hk := (Array.getElem?_eq_some_iff.1 ho).1
 rcases h.block k hk hB with e | ⟨t, c, c', ht, _, h1, _⟩
 ·exact e.trans ho
 ·rw [ho] at h1
  cases h1
  exact absurd ht hT
theorem obj_ne {w : World} {a b : Nat} {o p : Obj} (h1 : w.heap[a]? = some o) (h2 : w.heap[b]? = some p) (hne : o ≠ p) : a ≠ b := fun e => by
 subst e
 rw [h1] at h2
 exact hne (Option.some.inj h2)
theorem ty_ne {w : World} {a b : Nat} {c c' : Array Value} {t t' : TypeId} {f f' : Nat × Nat} (h1 : w.heap[a]? = some (.cells c t f)) (h2 : w.heap[b]? = some (.cells c' t' f')) (hne : t ≠ t') : a ≠ b := obj_ne h1 h2 (fun e => by cases e; exact hne rfl)
theorem blk_cell {w : World} {b : Nat} {c : Array Value} {t : TypeId} (h : w.heap[b]? = some (.cells c t (0, 0))) (i : Nat) : w.cell? ⟨b, i, none⟩ = c[i]? := cell_of_row w b i c t (0, 0) h
theorem blk_fz {w : World} {b : Nat} {c : Array Value} {t : TypeId} (h : w.heap[b]? = some (.cells c t (0, 0))) (i : Nat) : w.frozen? ⟨b, i, none⟩ = false := frozen_of_row w b i c t h
theorem blk_lt {w : World} {b : Nat} {o : Obj} (h : w.heap[b]? = some o) : b < w.heap.size := (Array.getElem?_eq_some_iff.1 h).1
theorem blk_set {w : World} {b i : Nat} {c : Array Value} {t : TypeId} {v : Value} (h : w.heap[b]? = some (.cells c t (0, 0))) : (w.setCell ⟨b, i, none⟩ v).heap[b]? = some (.cells (c.setIfInBounds i v) t (0, 0)) := heap_setCell_same w b i c t v h
theorem blk_set_other {w : World} {b i k : Nat} {o : Obj} {v : Value} (h : w.heap[k]? = some o) (hne : k ≠ b) : (w.setCell ⟨b, i, none⟩ v).heap[k]? = some o := (heap_setCell_other w ⟨b, i, none⟩ k v hne).trans h
theorem blk_new (w : World) (o : Obj) : (w.alloc o).heap[w.heap.size]? = some o := by show (w.heap.push _)[w.heap.size]? = _; rw [Array.getElem?_push_size]
theorem blk_alloc {w : World} {b : Nat} {o p : Obj} (h : w.heap[b]? = some o) : (w.alloc p).heap[b]? = some o := (Below.heap_alloc w _ b (blk_lt h)).trans h
end Go.Mark
set_option maxRecDepth 100000
set_option maxHeartbeats 4000000
namespace Go.Mark
open Go.RowKit Go.Proofs
variable [BaseB]
theorem info262 : ∃ i z, TryQ.prog.info? 262 = some i /\ i.zero = some z /\ i.size = 1 /\ i.bytes = 16 /\ z.cells.size = 1 := by
 obtain ⟨i, hi⟩ : ∃ i, TryQ.prog.info? 262 = some i := by
  cases h : TryQ.prog.info? 262 with
  | none => have := congrArg Option.isSome h; rw [show (TryQ.prog.info? 262).isSome = true by kernel_rfl] at this; cases this
  | some i => exact ⟨i, rfl⟩
 have e8 : (TryQ.prog.info? 262).map (·.size) = some 1 := by kernel_rfl
 have e64 : (TryQ.prog.info? 262).map (·.bytes) = some 16 := by kernel_rfl
 have ez : ((TryQ.prog.info? 262).bind (·.zero)).map (·.cells.size) = some 1 := by kernel_rfl
 rw [hi] at e8 e64 ez
 simp only [Option.map_some, Option.some.injEq, Option.bind_some] at e8 e64 ez
 cases hz : i.zero with
 | none => rw [hz] at ez; cases ez
 | some z => rw [hz] at ez; exact ⟨i, z, hi, hz, e8, e64, by simpa using ez⟩
structure LJ (W : World) (l m : Nat) (cr : Int) (dm : Nat) (J : List Value) : Prop where
 lo : BaseB.b0 <= l
 ex : ∃ jv : SV, W.heap[l]? = some (.cells #[.map (some m), .int .i64 cr, .slice jv.a jv.n jv.c, .map (some dm)] 128 (0, 0)) /\ W.ownsRow BaseB.b0 262 1 (.slice jv.a jv.n jv.c) J.length J
theorem note (l m : Nat) (cr : Int) (dm : Nat) (J : List Value) (ct : TypeId) (cv : Value) (W : World) (h : LJ W l m cr dm J) (hJ : J.length < 1000000) :
  Calls TryQ.prog 131 #[.pointer (some ⟨l, 0, none⟩), .iface ct cv] W fun e w' => e = .returned (.tuple #[]) /\ LJ w' l m cr dm (J ++ [.iface ct cv]) /\ Pres [l] [262] W w' := by
 obtain ⟨i, z, hi, hz, hs, hb, hzs⟩ := info262
 obtain ⟨jv, ho, hown⟩ := h.ex
 have hl := blk_lt ho
 have hlo := h.lo
 have c2 : W.cell? ⟨l, 2, none⟩ = some (.slice jv.a jv.n jv.c) := by rw [blk_cell ho 2]; rfl
 have hbx : Below W.heap.size W (W.alloc (.cells #[.iface ct cv] 262)) := ba
 have hown1 := own_below hown hbx
 have hn : (W.alloc (.cells #[.iface ct cv] 262)).cell? ⟨W.heap.size, 0, none⟩ = some (.iface ct cv) := by rw [blk_cell (blk_new W _) 0]; rfl
 have ho1 := blk_alloc (p := .cells #[.iface ct cv] 262) ho
 go_enter TryQ.func131, Tryz.ntmps131
 go_wp2_with (at_builtin; go_loud (refine wpList_append_keep _ (by rfl) _ _ 126 (by rfl) BaseB.b0 262 i z 1 16 ((q_underlying 126).trans Tryz.underlying126) hi hz hs hb hzs (by omega) (.slice jv.a jv.n jv.c) J.length J (by rfl) hown1 ⟨W.heap.size, 0, none⟩ 1 1 [.iface ct cv] (by rfl) rfl (fun j v hj => ?_) (fun u hu => ?_) (by omega) (by simp only [maxLen]; omega) (by omega) (by simp; omega) (W.heap.size + 1) (by simp) ?_))
 ·obtain rfl : j = 0 := by rcases j with _ | j; rfl; simp at hj
  simp only [List.getElem?_cons_zero, Option.some.injEq] at hj
  subst hj
  exact hn
 ·simp only [List.mem_singleton] at hu
  subst hu
  rfl
 intro g cap W3 hown3 hgrow hat hlt3 hold
 have hne : ∀ k, (Value.slice jv.a jv.n jv.c).ownBlock = some k -> k ≠ l := fun k hk => by
  obtain ⟨cur, hcur⟩ := own_type hown1 k hk
  exact ty_ne hcur ho1 (by decide)
 have ho3 : W3.heap[l]? = _ := (hgrow.block l (blk_lt ho1) (fun e => hne l e.symm rfl)).trans ho1
 have d2 : W3.cell? ⟨l, 2, none⟩ = some (.slice jv.a jv.n jv.c) := by rw [blk_cell ho3 2]; rfl
 have f2 := blk_fz ho3 2
 clear c2
 go_wp2
 simp [bodyPost, results, Tryz.results131, go_sem]
 refine ⟨⟨hlo, ⟨some ⟨g, 0, none⟩, J.length + 1, cap⟩, blk_set ho3, ?_⟩, ?_⟩
 ·have hl1 : (J ++ [Value.iface ct cv]).length = J.length + 1 := by simp
  rw [hl1]
  exact own_same hown3 fun k hk => heap_setCell_other W3 ⟨l, 2, none⟩ k _ (fun e => by
   obtain ⟨cur, hcur⟩ := own_type hown3 k hk
   exact ty_ne hcur ho3 (by decide) e)
 ·refine Pres.trans (v := W.alloc (.cells #[.iface ct cv] 262)) (.of_below hbx _ _) (Pres.trans (v := W3) ?_ ?_)
  ·exact (Pres.grown hgrow hown1 hold).mono (fun k _ h => by cases h) (fun t h => h)
  ·exact (Pres.setCell W3 l 2 _).mono (fun k _ h => h) (fun t h => by cases h)
end Go.Mark
namespace Go.Mark
open Go.RowKit Go.Proofs
def slotL (ss : List (Nat × Nat)) : List (Nat × Value) := ss.map fun p => (p.1, wd p.2)
end Go.Mark
set_option maxRecDepth 100000
set_option maxHeartbeats 1000000
namespace Go.Mark
open Go.RowKit Go.Proofs
variable [BaseB]
theorem run_lookup2 {κ : Type} [DecidableEq κ] {kt et mt : TypeId} {kf : κ -> Value} {ok : κ -> Prop} (K : Keys kt kf ok) (hm : TryQ.prog.underlying mt = some (.map kt et)) {w : World} {r : Nat} {l : List (κ × Value)} {k : κ} {z : Value} (hM : MapL kf w r l) (hk : ok k) (hl : ∀ p ∈ l, ok p.1) (hz : ∀ w, (zeroValue et).run TryQ.prog w = .ok z w) :
  (Instr.lookup mt (.map (some r)) (kf k) true).run TryQ.prog w = .ok (.tuple #[(findL k l 0).elim z (·.2), .bool (findL k l 0).isSome]) w := by
 obtain ⟨es, clock, hb, hR⟩ := hM
 have hf := K.find k es.toList l w hk hl hR
 have hg : (getObj r).run TryQ.prog w = .ok (.map es clock) w := by simp [getObj, Sem.run, hb]
 unfold Instr.lookup
 cases h : findL k l 0 with
 | none => simp [run_underlying hm, hg, K.chk, hf, h, hz]
 | some p => simp [run_underlying hm, hg, K.chk, hf, h]
structure Ac where
 bal : Nat
 nonce : Int
 code : ByteArray
 mark : SV
 ms : Nat
 sl : List (Nat × Nat)
structure Dm where
 b : Nat
 l : List Int
def dml (l : List Int) : List (Int × Value) := l.map fun i => (i, .agg #[])
def acCells (a : Ac) : Array Value := #[.int .u64 (lim a.bal 0), .int .u64 (lim a.bal 1), .int .u64 (lim a.bal 2), .int .u64 (lim a.bal 3), .int .i64 a.nonce, .string a.code, .slice a.mark.a a.mark.n a.mark.c, .map (some a.ms)]
def ids (L : List (Int × Nat × Ac)) : List (Int × Value) := L.map fun q => (q.1, .pointer (some ⟨q.2.1, 0, none⟩))
structure LG (W : World) (l m : Nat) (dm : Dm) (cr : Int) (L : List (Int × Nat × Ac)) (J : List Value) : Prop where
 lj : LJ W l m cr dm.b J
 map : MapB (fun x : Int => Value.int .i64 x) W m (ids L)
 dmap : MapB (fun x : Int => Value.int .i64 x) W dm.b (dml dm.l)
 acc : ∀ q ∈ L, W.heap[q.2.1]? = some (.cells (acCells q.2.2) 136 (0, 0))
 slot : ∀ q ∈ L, MapB wd W q.2.2.ms (slotL q.2.2.sl)
 nd : (L.map (·.1)).Nodup
 ndb : (L.map (·.2.1)).Nodup
 bal : ∀ q ∈ L, q.2.2.bal < M
 key : ∀ q ∈ L, ∀ p ∈ q.2.2.sl, p.1 < M /\ p.2 < M
 ndk : ∀ q ∈ L, (q.2.2.sl.map (·.1)).Nodup
 ndm : (L.map (·.2.2.ms)).Nodup
 nms : ∀ q ∈ L, q.2.2.ms ≠ m /\ q.2.2.ms ≠ dm.b
 nmd : m ≠ dm.b
 ndd : dm.l.Nodup
 lo : ∀ q ∈ L, BaseB.b0 <= q.2.1 /\ BaseB.b0 <= q.2.2.ms
 mlo : BaseB.b0 <= m /\ BaseB.b0 <= dm.b
theorem u124 : TryQ.prog.underlying 124 = some (.map 3 129) := (q_underlying 124).trans Tryz.underlying124
theorem find_ids : ∀ (L : List (Int × Nat × Ac)) (i : Nat) (q : Int × Nat × Ac), (L.map (·.1)).Nodup -> q ∈ L -> ∃ j, findL q.1 (ids L) i = some (j, .pointer (some ⟨q.2.1, 0, none⟩))
 | [], _, _, _, h => by cases h
 | r :: L, i, q, hn, h => by
  have hn' := List.nodup_cons.1 hn
  show ∃ j, findL q.1 ((r.1, Value.pointer (some ⟨r.2.1, 0, none⟩)) :: ids L) i = _
  unfold findL
  rcases List.mem_cons.1 h with rfl | h
  ·exact ⟨i, by simp⟩
  ·have hne : r.1 ≠ q.1 := fun e => hn'.1 (by show r.1 ∈ _; rw [e]; exact List.mem_map_of_mem (f := fun x : Int × Nat × Ac => x.1) h)
   obtain ⟨j, hj⟩ := find_ids L (i + 1) q hn'.2 h
   exact ⟨j, by rw [if_neg (fun e => hne e.symm)]; exact hj⟩
theorem find_no : ∀ (L : List (Int × Nat × Ac)) (i : Nat) (k : Int), k ∉ L.map (·.1) -> findL k (ids L) i = none
 | [], _, _, _ => rfl
 | r :: L, i, k, h => by
  show findL k ((r.1, Value.pointer (some ⟨r.2.1, 0, none⟩)) :: ids L) i = _
  unfold findL
  simp only [List.map_cons, List.mem_cons, not_or] at h
  rw [if_neg h.1]
  exact find_no L (i + 1) k h.2
theorem LG.look {W : World} {l m : Nat} {dm : Dm} {cr : Int} {L : List (Int × Nat × Ac)} {J : List Value} (h : LG W l m dm cr L J) {q : Int × Nat × Ac} (hq : q ∈ L) {W' : World} (hm : W'.heap[m]? = W.heap[m]?) :
  (Instr.lookup 124 (.map (some m)) (.int .i64 q.1) true).run TryQ.prog W' = .ok (.tuple #[.pointer (some ⟨q.2.1, 0, none⟩), .bool true]) W' := by
 obtain ⟨j, hj⟩ := find_ids L 0 q h.nd hq
 have := run_lookup2 intKeys u124 (z := .pointer none) (h.map.same hm).mapL (k := q.1) trivial (fun _ _ => trivial) (fun w => (q_run_zeroValue 129 w).trans (Tryz.zeroValue129 w))
 rw [hj] at this
 exact this
theorem LG.nolook {W : World} {l m : Nat} {dm : Dm} {cr : Int} {L : List (Int × Nat × Ac)} {J : List Value} (h : LG W l m dm cr L J) {k : Int} (hk : k ∉ L.map (·.1)) {W' : World} (hm : W'.heap[m]? = W.heap[m]?) :
  (Instr.lookup 124 (.map (some m)) (.int .i64 k) true).run TryQ.prog W' = .ok (.tuple #[.pointer none, .bool false]) W' := by
 have := run_lookup2 intKeys u124 (z := .pointer none) (h.map.same hm).mapL (k := k) trivial (fun _ _ => trivial) (fun w => (q_run_zeroValue 129 w).trans (Tryz.zeroValue129 w))
 rw [find_no L 0 k hk] at this
 exact this
theorem LG.cell0 {W : World} {l m : Nat} {dm : Dm} {cr : Int} {L : List (Int × Nat × Ac)} {J : List Value} (h : LG W l m dm cr L J) : l < W.heap.size /\ W.cell? ⟨l, 0, none⟩ = some (.map (some m)) := by
 obtain ⟨jv, ho, _⟩ := h.lj.ex
 exact ⟨blk_lt ho, by rw [blk_cell ho 0]; rfl⟩
section
variable {W : World} {l m : Nat} {dm : Dm} {cr : Int} {L : List (Int × Nat × Ac)} {J : List Value}
theorem has_yes (h : LG W l m dm cr L J) {q : Int × Nat × Ac} (hq : q ∈ L) :
  Calls TryQ.prog 82 #[.pointer (some ⟨l, 0, none⟩), .int .i64 q.1] W fun e w' => e = .returned (.bool true) /\ w' = W := by
 have hl := h.look hq (W' := W) rfl
 obtain ⟨hlt, hc⟩ := h.cell0
 clear hq h
 go_enter TryQ.func82, Tryz.ntmps82
 go_wp2
 go_ret
 exact ⟨rfl, rfl⟩
theorem touch_old (h : LG W l m dm cr L J) {q : Int × Nat × Ac} (hq : q ∈ L) :
  Calls TryQ.prog 87 #[.pointer (some ⟨l, 0, none⟩), .int .i64 q.1] W fun e w' => e = .returned (.pointer (some ⟨q.2.1, 0, none⟩)) /\ w' = W := by
 have hl := h.look hq (W' := W) rfl
 obtain ⟨hlt, hc⟩ := h.cell0
 clear hq h
 go_enter TryQ.func87, Tryz.ntmps87
 go_wp2
 go_ret
 exact ⟨rfl, rfl⟩
theorem look130 (h : LG W l m dm cr L J) {q : Int × Nat × Ac} (hq : q ∈ L) :
  Calls TryQ.prog 130 #[.pointer (some ⟨l, 0, none⟩), .int .i64 q.1] W fun e w' => e = .returned (.agg (acCells q.2.2)) /\ Below W.heap.size W w' := by
 obtain ⟨hlt, hc⟩ := h.cell0
 have hq2 := h.acc q hq
 have hbl := blk_lt hq2
 have hl := h.look hq (W' := W.alloc (.cells #[.int .u64 0, .int .u64 0, .int .u64 0, .int .u64 0, .int .i64 0, .string ⟨#[]⟩, .slice none 0 0, .map none] 136)) (Below.heap_alloc W _ m h.map.lt)
 have c0 := blk_cell hq2 0
 have c1 := blk_cell hq2 1
 have c2 := blk_cell hq2 2
 have c3 := blk_cell hq2 3
 have c4 := blk_cell hq2 4
 have c5 := blk_cell hq2 5
 have c6 := blk_cell hq2 6
 have c7 := blk_cell hq2 7
 simp only [acCells, List.getElem?_toArray, List.getElem?_cons_zero, List.getElem?_cons_succ] at c0 c1 c2 c3 c4 c5 c6 c7
 clear hq h hq2
 go_enter TryQ.func130, Tryz.ntmps130
 go_wp2
 simp [bodyPost, results, Tryz.results130, go_sem, acCells]
 exact ba
end
end Go.Mark
namespace Go.Mark
open Go.Conc Go.Lift Go.Proofs
theorem tame_at {b : Frame} {a : Act} {k : List Item} (hb : b.kind = .normal) (ha : a.defers = []) (hk : ∀ x ∈ k, okItem Tryz.prog x = true) : TameF Tryz.prog (b.at a k) :=
 ⟨hk, fun d hd => by simp [Frame.at, ha] at hd, .inl rfl, hb⟩
theorem will_mono {P : Program} {D : World -> World -> Array Event -> Prop} {S S' : Goroutine -> World -> Prop} (hS : ∀ a w, S a w -> S' a w) {a : Goroutine} {w : World} (h : Will P D S a w) : Will P D S' a w := by
 induction h with
 | stop h => exact .stop fun w₁ h₁ => hS _ _ (h w₁ h₁)
 | step run nx h1 _ ih => exact .step run nx h1 ih
theorem lift_code {D : Nat -> Prop} {c : Code} {b : Frame} {a : Act} {k : List Item} {cw : List Frame} {w : World} {Φ : Act -> World -> Prop} (hb : b.kind = .normal) (ha : a.defers = []) (hc : okCode Tryz.prog c = true) (hk : ∀ x ∈ k, okItem Tryz.prog x = true)
  (hex : ∃ v, Rel (veil D) w v) (hwp : ∀ v, Rel (veil D) w v -> c.wp TryQ.prog (fun e a' v' => e = .normal /\ a'.defers = [] /\ Φ a' v') a v) :
  Will Tryz.prog (DClean (veil D)) (fun g w' => ∃ a' v', g = G (b.at a' k) cw /\ Rel (veil D) w' v' /\ Stays w w' v' /\ a'.defers = [] /\ Φ a' v') (G (b.at a (.code c :: k)) cw) w := by
 refine will_mono ?_ (lift (fair D) (cw := cw) (S := fun fr frs v => ∃ a', fr = b.at a' k /\ frs = [] /\ a'.defers = [] /\ Φ a' v) (fr := b.at a (.code c :: k)) (frs := []) (w := w)
  (tame_at hb ha (fun x hx => by rcases List.mem_cons.1 hx with rfl | hx; exact hc; exact hk x hx)) (fun f hf => by simp at hf) hex (fun v hv => ?_))
 ·rintro g w' ⟨fr, frs, v, rfl, hr, hs, a', rfl, rfl, hd, hΦ⟩
  exact ⟨a', v, rfl, hr, hs, hd, hΦ⟩
 ·obtain ⟨e, a', v', ⟨rfl, hd, hΦ⟩, n, hn⟩ := hwp v hv b k [trap FQ.size]
  rw [TryQ.prog_eq] at hn
  exact ⟨n, b.at a' k, [], v', hn, tame_at hb hd hk, a', rfl, rfl, hd, hΦ⟩
def after (b₀ : Frame) (a₀ : Act) (ops₀ : Array Oper) (i₀ : Nat) (rest₀ : List Nat) (k₀ : List Item) (v : Value) : Frame := b₀.at (a₀.put ((ops₀[i₀]?).bind (·.dst)) v) (.inRegion ops₀ rest₀ :: k₀)
theorem put_nil (a : Act) (x : Option Tmp) (v : Value) (h : a.defers = []) : (a.put x v).defers = [] := by cases x <;> exact h
theorem leave_steps {Q : Program} {f : FuncId} {fn : Func} {b c : Frame} {a : Act} {todo : List Item} {cs : List Frame} {v : World} {val : Value} (hbf : b.fn = f) (hb : b.kind = .normal) (hf : Q.funcs[f]? = some fn) (hd : a.defers = []) (hr : (results fn a.tmps).run Q v = .ok val v) :
  Steps Q (lone { b.at a todo with mode := .returning } (c :: cs) v) (lone (c.finish val) cs v) :=
 .one (step_leave_returned ⟨rfl, hd, hb, fn, by show Q.funcs[b.fn]? = _; rw [hbf]; exact hf, hr⟩)
theorem lift_rest {D : Nat -> Prop} {f : FuncId} {fn : Func} {c : Code} {b b₀ : Frame} {a a₀ : Act} {ops₀ : Array Oper} {i₀ : Nat} {rest₀ : List Nat} {k₀ : List Item} {cw : List Frame} {w : World} {Ψ : Value -> World -> Prop} (hbf : b.fn = f) (hf : TryQ.prog.funcs[f]? = some fn) (hb : b.kind = .normal) (ha : a.defers = []) (hc : okCode Tryz.prog c = true)
  (hb₀ : b₀.kind = .normal) (ha₀ : a₀.defers = []) (ho₀ : okOps Tryz.prog ops₀ = true) (hk₀ : ∀ x ∈ k₀, okItem Tryz.prog x = true)
  (hex : ∃ v, Rel (veil D) w v) (hwp : ∀ v, Rel (veil D) w v -> c.wp TryQ.prog (bodyPost TryQ.prog fn fun e v' => ∃ val, e = .returned val /\ Ψ val v') a v) :
  Will Tryz.prog (DClean (veil D)) (fun g w' => ∃ val v', g = G (after b₀ a₀ ops₀ i₀ rest₀ k₀ val) cw /\ Rel (veil D) w' v' /\ Stays w w' v' /\ Ψ val v') (G (b.at a [.code c]) (b₀.at a₀ (.inRegion ops₀ (i₀ :: rest₀) :: k₀) :: cw)) w := by
 have tc : ∀ a', a'.defers = [] -> ∀ l, TameF Tryz.prog (b₀.at a' (.inRegion ops₀ l :: k₀)) := fun a' ha' l => tame_at hb₀ ha' (fun x hx => by rcases List.mem_cons.1 hx with rfl | hx; exact ho₀; exact hk₀ x hx)
 refine will_mono ?_ (lift (fair D) (cw := cw) (S := fun fr frs v => ∃ val, fr = after b₀ a₀ ops₀ i₀ rest₀ k₀ val /\ frs = [] /\ Ψ val v) (fr := b.at a [.code c]) (frs := [b₀.at a₀ (.inRegion ops₀ (i₀ :: rest₀) :: k₀)]) (w := w)
  (tame_at hb ha (fun x hx => by rw [List.mem_singleton.1 hx]; exact hc)) (fun f hf => by rw [List.mem_singleton.1 hf]; exact tc a₀ ha₀ _) hex (fun v hv => ?_))
 ·rintro g w' ⟨fr, frs, v, rfl, hr, hs, val, rfl, rfl, hΨ⟩
  exact ⟨val, v, rfl, hr, hs, hΨ⟩
 ·obtain ⟨e, a', v', hQ, hA⟩ := hwp v hv b [] (b₀.at a₀ (.inRegion ops₀ (i₀ :: rest₀) :: k₀) :: [trap FQ.size])
  have fin : ∀ val, (b₀.at a₀ (.inRegion ops₀ (i₀ :: rest₀) :: k₀)).finish val = after b₀ a₀ ops₀ i₀ rest₀ k₀ val := fun val => Frame.finish_at _ _ _ _ _ _ _
  have key : ∀ val, (∃ todo, Steps TryQ.prog (lone (b.at a [.code c]) (b₀.at a₀ (.inRegion ops₀ (i₀ :: rest₀) :: k₀) :: [trap FQ.size]) v) (lone { b.at a' todo with mode := .returning } (b₀.at a₀ (.inRegion ops₀ (i₀ :: rest₀) :: k₀) :: [trap FQ.size]) v')) -> a'.defers = [] -> (results fn a'.tmps).run TryQ.prog v' = .ok val v' -> Ψ val v' ->
    ∃ n fr' frs' v'', runN (strip Tryz.prog FQ) n (lone (b.at a [.code c]) ([b₀.at a₀ (.inRegion ops₀ (i₀ :: rest₀) :: k₀)] ++ [trap FQ.size]) v) = .next (lone fr' (frs' ++ [trap FQ.size]) v'') /\ TameF Tryz.prog fr' /\ ∃ val, fr' = after b₀ a₀ ops₀ i₀ rest₀ k₀ val /\ frs' = [] /\ Ψ val v'' := by
   rintro val ⟨todo, hs⟩ hd hr hΨ
   obtain ⟨n, hn⟩ := hs.trans (leave_steps (todo := todo) hbf hb hf hd hr)
   rw [fin, TryQ.prog_eq] at hn
   exact ⟨n, _, [], v', hn, tc _ (put_nil _ _ _ ha₀) _, val, rfl, rfl, hΨ⟩
  cases e with
  | normal =>
   obtain ⟨hd, x, hr, val, hv', hΨ⟩ := hQ
   cases hv'
   exact key _ ⟨[], hA.trans (.one step_end)⟩ hd hr hΨ
  | ret =>
   obtain ⟨hd, x, hr, val, hv', hΨ⟩ := hQ
   cases hv'
   exact key _ hA hd hr hΨ
  | panic ch => obtain ⟨_, _, h, _⟩ := hQ; cases h
  | outgrown => obtain ⟨_, h, _⟩ := hQ; cases h
  | _ => exact hQ.elim
end Go.Mark
set_option maxRecDepth 100000
set_option maxRecDepth 100000
namespace Go.Proofs
open Go.Mark Go.RowKit Go.Shelf
def TryQ.clone_ren : Go.Shelf.Ren := ⟨fun | 316 => 101 | n => n, fun | 9 => 9 | 3 => 3 | 4 => 4 | 37 => 31 | 0 => 0 | 127 => 244 | 5 => 5 | n => n, fun | n => n⟩
theorem TryQ.clone : Go.Proofs.LaysM.n316 TryQ.prog TryQ.clone_ren where
 mixed := by kernel_rfl
 f316 := TryQ.func101.trans (congrArg some (by kernel_rfl))
 t0 := (q_underlying 0).trans Tryz.underlying0
 a0 := fun w => (q_run_isAgg 0 w).trans (Tryz.isAgg0 w)
 z0 := fun w => (q_run_sizeOf 0 w).trans (Tryz.sizeOf0 w)
 v0 := fun w => (q_run_zeroValue 0 w).trans (Tryz.zeroValue0 w)
 t3 := (q_underlying 3).trans Tryz.underlying3
 a3 := fun w => (q_run_isAgg 3 w).trans (Tryz.isAgg3 w)
 z3 := fun w => (q_run_sizeOf 3 w).trans (Tryz.sizeOf3 w)
 v3 := fun w => (q_run_zeroValue 3 w).trans (Tryz.zeroValue3 w)
 t4 := (q_underlying 4).trans Tryz.underlying4
 a4 := fun w => (q_run_isAgg 4 w).trans (Tryz.isAgg4 w)
 z4 := fun w => (q_run_sizeOf 4 w).trans (Tryz.sizeOf4 w)
 v4 := fun w => (q_run_zeroValue 4 w).trans (Tryz.zeroValue4 w)
 t9 := (q_underlying 9).trans Tryz.underlying9
 a9 := fun w => (q_run_isAgg 9 w).trans (Tryz.isAgg9 w)
 z9 := fun w => (q_run_sizeOf 9 w).trans (Tryz.sizeOf9 w)
 v9 := fun w => (q_run_zeroValue 9 w).trans (Tryz.zeroValue9 w)
 t37 := (q_underlying 31).trans Tryz.underlying31
 a37 := fun w => (q_run_isAgg 31 w).trans (Tryz.isAgg31 w)
 z37 := fun w => (q_run_sizeOf 31 w).trans (Tryz.sizeOf31 w)
 v37 := fun w => (q_run_zeroValue 31 w).trans (Tryz.zeroValue31 w)
 t127 := (q_underlying 244).trans Tryz.underlying244
 a127 := fun w => (q_run_isAgg 244 w).trans (Tryz.isAgg244 w)
 z127 := fun w => (q_run_sizeOf 244 w).trans (Tryz.sizeOf244 w)
 v127 := fun w => (q_run_zeroValue 244 w).trans (Tryz.zeroValue244 w)
 t5 := (q_underlying 5).trans Tryz.underlying5
 a5 := fun w => (q_run_isAgg 5 w).trans (Tryz.isAgg5 w)
 z5 := fun w => (q_run_sizeOf 5 w).trans (Tryz.sizeOf5 w)
 v5 := fun w => (q_run_zeroValue 5 w).trans (Tryz.zeroValue5 w)
 i0 := by kernel_rfl
 i3 := by kernel_rfl
 i4 := by kernel_rfl
 i5 := by kernel_rfl
 i9 := by kernel_rfl
 i37 := by kernel_rfl
 i127 := by kernel_rfl
theorem clone26 (s : ByteArray) (w : World) (h : s.size <= 281474976710656) : Calls TryQ.prog 61 #[.string s] w fun e w' => e = .returned (.string s) /\ Below w.heap.size w w' := by
 have hc := Any.stringslite_Clone TryQ.clone s w h
 change Calls TryQ.prog 101 _ _ _ at hc
 go_enter TryQ.func61, Tryz.ntmps61
 go_wp2_with fail
 refine hc.mono ?_
 rintro e w1 ⟨rfl, hb⟩
 go_wp2_with fail
 go_ret
 exact ⟨rfl, hb⟩
end Go.Proofs
