import Derived.Test.YtbephahokhnccaaGreatF17
import Derived.Maps.RangeRun
import Derived.Maps.Range
import Derived.Shelf.SlIterI.Nil
/-! ledger.keptSlots: the slots of an account as a map. -/
namespace Go.Mark
open Go.RowKit Go.Proofs
theorem updL_new {κ : Type} [DecidableEq κ] (k : κ) (v : Value) : ∀ l : List (κ × Value), k ∉ l.map (·.1) → updL k v l = l ++ [(k, v)]
 | [], _ => rfl
 | p :: l, h => by
  have h1 : k ≠ p.1 := fun e => h (by simp [e])
  have h2 : k ∉ l.map (·.1) := fun e => h (by rw [List.map_cons]; exact List.mem_cons_of_mem _ e)
  rw [updL, if_neg h1, updL_new k v l h2]
  rfl
/-- what the map reads as -/
def keptL (ss : List (Nat × Nat)) : List (Nat × Value) := (kept ss).map fun q => (q.1, wd q.2)
theorem keptL_mem (ss : List (Nat × Nat)) (k : Nat) (h : k ∈ (keptL ss).map (·.1)) : ∃ q ∈ ss, q.1 = k := by
 simp only [keptL, List.map_map] at h
 obtain ⟨q, hq, rfl⟩ := List.mem_map.1 h
 exact ⟨q, (List.mem_filter.1 hq).1, rfl⟩
theorem run_mkMap0 {mt : TypeId} (w : World) : (Instr.makeMap mt none).run TryQ.prog w = .ok (.map (some w.heap.size)) (w.alloc (.map #[] 0)) := by
 unfold Instr.makeMap
 simp
set_option maxRecDepth 100000 in
set_option maxHeartbeats 2000000 in
theorem keptSlots (ss : List (Nat × Nat)) (b cap : Nat) (w : World) (hA : SlotsAt w b ss) (hn : ss.length < 2199023255552) (hm : ∀ p ∈ ss, p.1 < M ∧ p.2 < M) (hnd : (ss.map (·.1)).Nodup) :
  Calls TryQ.prog 27 #[.slice (some ⟨b, 0, none⟩) ss.length cap] w fun e w' => e = .returned (.map (some w.heap.size)) ∧ MapL wd w' w.heap.size (keptL ss) ∧ Below w.heap.size w w' ∧ w.heap.size < w'.heap.size := by
 have u91 : TryQ.prog.underlying 91 = some (.map 28 28) := (q_underlying 91).trans Tryz.underlying91
 have hmk := fun W => run_mkMap0 (mt := 91) W
 go_enter TryQ.func27, Tryz.ntmps27
 go_wp2
 go_loopw [9] (fun i wr => ∃ k : Nat, i = .int .i64 k ∧ k ≤ ss.length ∧ MapL wd wr w.heap.size (keptL (ss.take k)) ∧ Below w.heap.size w wr ∧ w.heap.size < wr.heap.size) (fun i _ => ss.length - (Go.RowKit.intOf i).toNat)
 case atStart =>
  exact ⟨0, rfl, Nat.zero_le _, ⟨#[], 0, by show (w.heap.push _)[w.heap.size]? = _; rw [Array.getElem?_push_size], rfl⟩, (Below.refl _ _).alloc (Nat.le_refl _) _, by simp⟩
 case round =>
  obtain ⟨k, rfl, hk, hM, hB, hsz⟩ := hrel
  by_cases hlt : k < ss.length
  ·have hlt' : (k : Int) < (ss.length : Int) := by omega
   have hA' := (hA.below hB) k ss[k] (List.getElem?_eq_getElem hlt)
   have c0 := hA' 0 _ rfl
   have c1 := hA' 1 _ rfl
   have c2 := hA' 2 _ rfl
   have c3 := hA' 3 _ rfl
   have c4 := hA' 4 _ rfl
   have c5 := hA' 5 _ rfl
   have c6 := hA' 6 _ rfl
   have c7 := hA' 7 _ rfl
   rw [Nat.add_zero] at c0
   clear hA'
   have hmk' := hm _ (List.getElem_mem hlt)
   have hq := eqz ss[k].2 hmk'.2
   unfold wd at hq
   have hs' : w.heap.size < (wr.alloc (.cells (slotCells ss[k]).toArray 57)).heap.size := by simp; omega
   have hBa := hB.alloc (Nat.le_of_lt hsz) (.cells (slotCells ss[k]).toArray 57)
   by_cases h0 : ss[k].2 = 0
   ·have hk0 : Shut (ss[k].2 = 0) := h0
    rw [decide_eq_true h0] at hq
    clear h0
    go_wp2
    refine ⟨⟨k + 1, by go_num, by omega, ?_, hBa, hs'⟩, ?_⟩
    ·unfold keptL
     rw [kept_skip ss k hlt hk0.out]
     exact hM.alloc _
    ·simp [Go.RowKit.intOf]; omega
   ·have hk0 : Shut (¬ ss[k].2 = 0) := h0
    rw [decide_eq_false h0] at hq
    clear h0
    go_wp2
    refine upon_mapUpdate wordKeys u91 (k := ss[k].1) (v := wd ss[k].2) (hM.alloc _) hmk'.1 (fun p hp => by
     obtain ⟨q, hq, e⟩ := keptL_mem _ p.1 (List.mem_map_of_mem hp)
     rw [← e]
     exact (hm q (List.mem_of_mem_take hq)).1) (fun o' hM' => ?_)
    have hB' := below_setMap hBa (Nat.le_refl _) o'
    rw [updL_new] at hM'
    rotate_left
    ·intro h
     obtain ⟨q, hq, e⟩ := keptL_mem _ _ h
     obtain ⟨i, hi, rfl⟩ := List.mem_iff_getElem.1 hq
     have hi' : i < k := by simp at hi; omega
     have h1 := List.pairwise_iff_getElem.1 hnd i k (by simp; omega) (by simpa using hlt) hi'
     simp at h1
     simp at e
     exact h1 e
    have e : keptL (ss.take k) ++ [(ss[k].1, wd ss[k].2)] = keptL (ss.take (k + 1)) := by
     unfold keptL
     rw [kept_snoc ss k hlt hk0.out, List.map_append]
     rfl
    rw [e] at hM'
    go_wp2
    go_roundw
    case rel =>
     exact ⟨k + 1, by go_num, by omega, hM', hB', by simpa using hs'⟩
    case measure => simp [Go.RowKit.intOf]; omega
  ·have hk' : k = ss.length := by omega
   subst hk'
   rw [List.take_length] at hM
   go_wp2
   simp [bodyPost, results, Tryz.results27, go_sem]
   exact ⟨hM, hB, hsz⟩
end Go.Mark
/-
 Maps whose entries bear their stamps; the range over a map, whatever its keys.
-/
namespace Go.Mark
open Go.RowKit Go.Proofs Go.MapKept Go.ChangeMaps
/-- every entry was born ahead of the clock, no two at once -/
def Stamps (es : List MapEntry) (clock : Nat) : Prop := (∀ x ∈ es, x.born < clock) ∧ (es.map (·.born)).Nodup
section
variable {κ : Type}
/-- block r is a map that reads as this list, and its entries bear their stamps -/
def MapB (kf : κ → Value) (w : World) (r : Nat) (l : List (κ × Value)) : Prop := ∃ es clock, w.heap[r]? = some (.map es clock) ∧ Reads kf es.toList l ∧ Stamps es.toList clock
theorem MapB.mapL {kf : κ → Value} {w : World} {r : Nat} {l : List (κ × Value)} (h : MapB kf w r l) : MapL kf w r l := let ⟨es, c, h1, h2, _⟩ := h; ⟨es, c, h1, h2⟩
theorem MapB.same {kf : κ → Value} {w w' : World} {r : Nat} {l : List (κ × Value)} (h : MapB kf w r l) (e : w'.heap[r]? = w.heap[r]?) : MapB kf w' r l := let ⟨es, c, hb, hR⟩ := h; ⟨es, c, e.trans hb, hR⟩
theorem MapB.lt {kf : κ → Value} {w : World} {r : Nat} {l : List (κ × Value)} (h : MapB kf w r l) : r < w.heap.size := let ⟨_, _, hb, _⟩ := h; (Array.getElem?_eq_some_iff.1 hb).1
theorem MapB.below {kf : κ → Value} {w w' : World} {r : Nat} {l : List (κ × Value)} (h : MapB kf w r l) (hb : Below w.heap.size w w') : MapB kf w' r l := h.same (hb.block r h.lt)
theorem MapB.new (kf : κ → Value) (w : World) : MapB kf (w.alloc (.map #[] 0)) w.heap.size [] := ⟨#[], 0, by show (w.heap.push _)[w.heap.size]? = _; rw [Array.getElem?_push_size], rfl, by simp [Stamps]⟩
variable [DecidableEq κ]
theorem run_mapUpdateB {kt et mt : TypeId} {kf : κ → Value} {ok : κ → Prop} (K : Keys kt kf ok) (hm : TryQ.prog.underlying mt = some (.map kt et)) {w : World} {r : Nat} {l : List (κ × Value)} {k : κ} {v : Value} (hM : MapB kf w r l) (hk : ok k) (hl : ∀ p ∈ l, ok p.1) :
  ∃ es clock, (Instr.mapUpdate mt (.map (some r)) (kf k) v).run TryQ.prog w = .ok () { w with heap := w.heap.setIfInBounds r (.map es clock) } ∧ MapB kf { w with heap := w.heap.setIfInBounds r (.map es clock) } r (updL k v l) := by
 obtain ⟨es, clock, hb, hR, hS⟩ := hM
 have hf := K.find k es.toList l w hk hl hR
 have hlt : r < w.heap.size := (Array.getElem?_eq_some_iff.1 hb).1
 have hset : ∀ o : Obj, (w.heap.setIfInBounds r o)[r]? = some o := fun o => by simp [hlt]
 have hg : (getObj r).run TryQ.prog w = .ok (.map es clock) w := by simp [getObj, Sem.run, hb]
 have hs : ∀ o : Obj, (setObj r o).run TryQ.prog w = .ok () { w with heap := w.heap.setIfInBounds r o } := fun o => by simp [setObj, Sem.run, hb]
 unfold Instr.mapUpdate
 cases h : findL k l 0 with
 | none =>
  refine ⟨es.push { key := kf k, val := v, born := clock }, clock + 1, ?_, _, _, hset _, hR.push h es clock, ?_⟩
  ·simp [run_underlying hm, hg, hs, K.chk, hf, h]
  ·refine ⟨fun x hx => ?_, ?_⟩
   ·rw [Array.toList_push] at hx
    rcases List.mem_append.1 hx with hx | hx
    ·exact Nat.lt_succ_of_lt (hS.1 x hx)
    ·rw [List.mem_singleton.1 hx]; exact Nat.lt_succ_self _
   ·rw [Array.toList_push, List.map_append]
    refine List.nodup_append.2 ⟨hS.2, by simp, fun a ha b hb e => ?_⟩
    obtain ⟨x, hx, rfl⟩ := List.mem_map.1 ha
    have := hS.1 x hx
    simp at hb
    omega
 | some p =>
  obtain ⟨j, x⟩ := p
  obtain ⟨h1, h2⟩ := hR.upd (v := v) h es
  refine ⟨es.modify j fun e => { e with key := kf k, val := v }, clock, ?_, _, _, hset _, h2, ?_⟩
  ·simp [run_underlying hm, hg, hs, K.chk, hf, h, Instr.keyThatStays, h1, K.bits]
  ·have hmap : (es.modify j fun e => { e with key := kf k, val := v }).toList.map (·.born) = es.toList.map (·.born) := by
    apply List.ext_getElem?
    intro i
    simp only [List.getElem?_map, Array.getElem?_toList, Array.getElem?_modify]
    by_cases hij : j = i
    ·subst hij; cases es[j]? <;> simp
    ·simp [hij]
   refine ⟨fun x hx => ?_, by rw [hmap]; exact hS.2⟩
   have : x.born ∈ (es.modify j fun e => { e with key := kf k, val := v }).toList.map (·.born) := List.mem_map_of_mem hx
   rw [hmap] at this
   obtain ⟨y, hy, e⟩ := List.mem_map.1 this
   rw [← e]
   exact hS.1 y hy
set_option maxRecDepth 100000 in
theorem upon_mapUpdateB {kt et mt : TypeId} {kf : κ → Value} {ok : κ → Prop} (K : Keys kt kf ok) (hm : TryQ.prog.underlying mt = some (.map kt et)) {W : World} {r : Nat} {l : List (κ × Value)} {k : κ} {v : Value} {o : Oper} {a : Act} {next : Act → World → Prop} {Q : Exit → Act → World → Prop} (hM : MapB kf W r l) (hk : ok k) (hl : ∀ p ∈ l, ok p.1)
  (h : ∀ o', MapB kf { W with heap := W.heap.setIfInBounds r o' } r (updL k v l) → next (a.put o.dst undef) { W with heap := W.heap.setIfInBounds r o' }) :
  Oper.upon TryQ.prog o a next Q ((Sem.run TryQ.prog (Instr.mapUpdate mt (.map (some r)) (kf k) v) W).andThen fun _ w' => .ok .skip w') := by
 obtain ⟨es, clock, hrun, hM'⟩ := run_mapUpdateB K hm (v := v) hM hk hl
 rw [hrun]
 exact h _ hM'
end
/-- a range over the map of block b is under way: these entries have come -/
structure IterAt (w : World) (b r : Nat) (es : Array MapEntry) (clock : Nat) (pre : List MapEntry) : Prop where
 map : w.heap[b]? = some (.map es clock)
 st : Stamps es.toList clock
 it : w.heap[r]? = some (.mapIter (some b) clock (pre.map (·.born)).toArray clock)
 sub : ∀ e ∈ pre, e ∈ es.toList
 nd : (pre.map (·.born)).Nodup
theorem IterAt.start {w : World} {b : Nat} {es : Array MapEntry} {clock : Nat} (hb : w.heap[b]? = some (.map es clock)) (hs : Stamps es.toList clock) : IterAt (w.alloc (.mapIter (some b) clock #[] clock)) b w.heap.size es clock [] :=
 ⟨(Below.heap_alloc w _ b (Array.getElem?_eq_some_iff.1 hb).1).trans hb, hs, by show (w.heap.push _)[w.heap.size]? = _; rw [Array.getElem?_push_size]; rfl, by simp, by simp⟩
theorem IterAt.walks {w w' : World} {b r : Nat} {es : Array MapEntry} {clock : Nat} {pre : List MapEntry} (h : IterAt w b r es clock pre) (h1 : w'.heap[b]? = w.heap[b]?) (h2 : w'.heap[r]? = w.heap[r]?) : IterAt w' b r es clock pre := ⟨h1.trans h.map, h.st, h2.trans h.it, h.sub, h.nd⟩
theorem nd_of_map {α β : Type} {f : α → β} {l : List α} (h : (l.map f).Nodup) : l.Nodup := (List.pairwise_map.1 h).imp fun h e => h (congrArg f e)
theorem born_inj' {es : List MapEntry} (h : (es.map (·.born)).Nodup) {x y : MapEntry} (hx : x ∈ es) (hy : y ∈ es) (e : x.born = y.born) : x = y := by
 obtain ⟨i, hi, rfl⟩ := List.mem_iff_getElem.1 hx
 obtain ⟨j, hj, rfl⟩ := List.mem_iff_getElem.1 hy
 have hn := List.pairwise_iff_getElem.1 h
 rcases Nat.lt_trichotomy i j with hij | hij | hij
 ·have := hn i j (by simpa using hi) (by simpa using hj) hij
  simp [e] at this
 ·subst hij; rfl
 ·have := hn j i (by simpa using hj) (by simpa using hi) hij
  simp [e] at this
theorem IterAt.next {w : World} {b r : Nat} {es : Array MapEntry} {clock : Nat} {pre : List MapEntry} (h : IterAt w b r es clock pre) (hne : b ≠ r) (ty : TypeId) :
  (pre.Perm es.toList ∧ (Instr.next (.pointer (some ⟨r, 0, none⟩)) false ty).run TryQ.prog w = .ok (.tuple #[.bool false]) w) ∨
  ∃ e w', e ∈ es.toList ∧ e ∈ (leftOf es (pre.map (·.born)).toArray).toList ∧ (Instr.next (.pointer (some ⟨r, 0, none⟩)) false ty).run TryQ.prog w = .ok (.tuple #[.bool true, e.key, e.val]) w' ∧ IterAt w' b r es clock (pre ++ [e]) ∧ w.grownBy w' (some r) ∧ w'.heap.size = w.heap.size ∧
   (Instr.entry (.pointer (some ⟨r, 0, none⟩))).run TryQ.prog w' = .ok (.tuple #[e.key, e.val]) w' := by
 rcases run_next_at (P := TryQ.prog) w ty r b clock clock (pre.map (·.born)).toArray es clock h.it h.map h.st.1 (Nat.le_refl _) with ⟨h0, hrun⟩ | ⟨e, he, w1, hal, hrun⟩
 ·refine .inl ⟨?_, hrun⟩
  have hall := all_seen es _ h0
  have hn1 : pre.Nodup := nd_of_map h.nd
  have hn2 : es.toList.Nodup := nd_of_map h.st.2
  refine (List.perm_ext_iff_of_nodup hn1 hn2).2 fun x => ⟨h.sub x, fun hx => ?_⟩
  have := hall x hx
  simp only [List.contains_toArray, List.contains_iff_mem] at this
  obtain ⟨y, hy, e⟩ := List.mem_map.1 this
  rw [← born_inj' h.st.2 (h.sub y hy) hx e]
  exact hy
 ·obtain ⟨hem, hes⟩ := mem_left he
  have hnp : e ∉ pre := fun hp => by
   have : (pre.map (·.born)).contains e.born = true := by simp only [List.contains_iff_mem]; exact List.mem_map_of_mem hp
   rw [List.contains_toArray] at hes
   rw [hes] at this
   cases this
  have hr1 : w1.heap[r]? = some (.mapIter (some b) clock (pre.map (·.born)).toArray clock) := by rcases hal with rfl | rfl <;> exact h.it
  have hb1 : w1.heap[b]? = some (.map es clock) := by rcases hal with rfl | rfl <;> exact h.map
  have hset := MapKept.heap_set (o' := .mapIter (some b) clock ((pre.map (·.born)).toArray.push e.born) clock) hr1
  have hb' : (setBlock w1 r (.mapIter (some b) clock ((pre.map (·.born)).toArray.push e.born) clock)).heap[b]? = some (.map es clock) := (hset.2 b hne).trans hb1
  refine .inr ⟨e, _, hem, he, hrun, ⟨hb', h.st, ?_, fun x hx => ?_, ?_⟩, ?_, ?_, run_entry_at _ r b clock _ es clock e hset.1 hb' hem h.st.2⟩
  ·refine hset.1.trans ?_; simp
  ·rcases List.mem_append.1 hx with hx | hx
   ·exact h.sub x hx
   ·rw [List.mem_singleton.1 hx]; exact hem
  ·rw [List.map_append]
   refine List.nodup_append.2 ⟨h.nd, by simp, fun a ha c hc e' => ?_⟩
   obtain ⟨y, hy, rfl⟩ := List.mem_map.1 ha
   simp only [List.map_cons, List.map_nil, List.mem_singleton] at hc
   rw [hc] at e'
   exact hnp (born_inj' h.st.2 (h.sub y hy) hem e' ▸ hy)
  ·rcases hal with rfl | rfl <;> exact ⟨rfl, rfl, rfl, by simp [setBlock], fun i _ hi => hset.2 i (fun e1 => hi (by rw [e1]))⟩
  ·rcases hal with rfl | rfl <;> simp [setBlock]
theorem IterAt.left {w : World} {b r : Nat} {es : Array MapEntry} {clock : Nat} {pre : List MapEntry} (h : IterAt w b r es clock pre) : w.rangeLeft b r = (leftOf es (pre.map (·.born)).toArray).size := by
 unfold World.rangeLeft
 rw [h.map, h.it]
theorem left_snoc {es : Array MapEntry} {pre : List MapEntry} {e : MapEntry} (he : e ∈ (leftOf es (pre.map (·.born)).toArray).toList) : (leftOf es ((pre ++ [e]).map (·.born)).toArray).size < (leftOf es (pre.map (·.born)).toArray).size := by
 have := left_shrinks es _ e he
 simpa using this
end Go.Mark
/-
 maps.Keys at a map of words: the iterator (65, 90).
-/
namespace Go.Mark
open Go.RowKit Go.Proofs Go.Maps Go.Sort Go.Shelf
theorem wd_inj {m n : Nat} (hm : m < M) (hn : n < M) (h : wd m = wd n) : m = n := by
 unfold wd at h
 simp only [Value.agg.injEq] at h
 have h' := congrArg Array.toList h
 simp at h'
 exact lim_inj m n hm hn h'.1 h'.2.1 h'.2.2.1 h'.2.2.2
open Classical in
/-- the number of a word -/
noncomputable def dw (v : Value) : Nat := if h : ∃ k, k < M ∧ v = wd k then h.choose else 0
theorem dw_wd {k : Nat} (hk : k < M) : dw (wd k) = k := by
 have h : ∃ j, j < M ∧ wd k = wd j := ⟨k, hk, rfl⟩
 unfold dw
 rw [dif_pos h]
 exact (wd_inj hk h.choose_spec.1 h.choose_spec.2).symm
theorem map_dw : ∀ {l : List Nat}, (∀ k ∈ l, k < M) → (l.map wd).map dw = l
 | [], _ => rfl
 | k :: l, h => by rw [List.map_cons, List.map_cons, dw_wd (h k (List.mem_cons_self ..)), map_dw (fun j hj => h j (List.mem_cons_of_mem _ hj))]
theorem u91 : TryQ.prog.underlying 91 = some (.map 28 28) := (q_underlying 91).trans Tryz.underlying91
set_option maxRecDepth 100000 in
set_option maxHeartbeats 2000000 in
/-- the iterator gives the keys, each once -/
theorem keys90 (n : Nat) (hn : 1 ≤ n) (lp Bm b : Nat) (l : List (Nat × Value)) (hl : ∀ p ∈ l, p.1 < M) (J : List Nat → World → Prop)
  (hY : ∀ pre x W1, J pre W1 → pre.length < l.length → YieldAt Fence.wide (n - 1) TryQ.prog lp #[wd x] W1 fun e W' => e = .returned (.bool true) ∧ J (pre ++ [x]) W' ∧ KeepsWalks W1 W')
  (W : World) (hJ : AbidesFrom W.heap.size J) (hm : W.cell? ⟨Bm, 0, none⟩ = some (.map (some b))) (hM : MapB wd W b l) (h0 : J [] W) :
  CallsIn Fence.wide n TryQ.prog 90 #[.func (.yield lp) #[] #[], .pointer (some ⟨Bm, 0, none⟩)] W fun e W' => (∃ v, e = .returned v) ∧ ∃ ss : List Nat, ss.Perm (l.map (·.1)) ∧ J ss W' := by
 have hbl := hM.lt
 obtain ⟨es, clock, hb, hR, hS⟩ := hM
 have hrange := run_range_map (P := TryQ.prog) W 91 28 28 b es clock u91 hb
 have hI0 := IterAt.start hb hS
 have hlen : es.toList.length = l.length := by have := congrArg List.length hR; simpa using this
 have hkey : ∀ e ∈ es.toList, ∃ k, k < M ∧ e.key = wd k := fun e he => by
  have : (e.key, e.val) ∈ es.toList.map fun e => (e.key, e.val) := List.mem_map_of_mem he
  rw [hR] at this
  obtain ⟨p, hp, e1⟩ := List.mem_map.1 this
  exact ⟨p.1, hl p hp, (Prod.mk.inj e1).1.symm⟩
 have hkeys : es.toList.map (·.key) = (l.map (·.1)).map wd := by
  have := congrArg (List.map Prod.fst) hR
  rw [List.map_map, List.map_map] at this
  rw [List.map_map]
  exact this
 refine callsIn_of_wp TryQ.func90 rfl trivial ?_ rfl
 simp only [Tryz.ntmps90, List.size_toArray, List.length_cons, List.length_nil, Nat.reduceAdd, Nat.reduceSub, Array.replicate_succ, Array.replicate_zero, List.push_toArray, List.append_toArray, List.nil_append, List.cons_append]
 gi_wp2
 have hJ1 : J [] (W.alloc (.mapIter (some b) clock #[] clock)) := hJ [] W _ none h0 (World.grownBy_alloc W _ none) (fun r e => by cases e)
 generalize W.alloc (.mapIter (some b) clock #[] clock) = w0 at hI0 hJ1 ⊢
 gi_loopw [] (fun wr => ∃ (pre : List MapEntry) (ss : List Nat), IterAt wr b W.heap.size es clock pre ∧ pre.map (·.key) = ss.map wd ∧ (∀ k ∈ ss, k < M) ∧ pre.length + (leftOf es (pre.map (·.born)).toArray).size ≤ es.size ∧ J ss wr)
  (fun wr => wr.rangeLeft b W.heap.size)
 case atStart => exact ⟨[], [], hI0, rfl, by simp, (by show 0 + (leftOf es _).size ≤ _; rw [Nat.zero_add]; exact Array.size_filter_le), hJ1⟩
 case round =>
  obtain ⟨pre, ss, hI, hpk, hss, hcnt, hJs⟩ := hrel
  have hbr : b ≠ W.heap.size := by omega
  have hpl : ss.length = pre.length := by have := congrArg List.length hpk; simpa using this.symm
  rcases hI.next hbr 0 with ⟨hperm, hrun⟩ | ⟨e, w', hem, he, hrun, hI2, hg2, hs2, hen⟩
  ·gi_wp2
   go_end0
   refine ⟨⟨_, rfl⟩, ss, ?_, hJs⟩
   have h1 := hperm.map (·.key)
   rw [hpk, hkeys] at h1
   have h2 := h1.map dw
   rw [map_dw hss, map_dw (fun k hk => by obtain ⟨p, hp, rfl⟩ := List.mem_map.1 hk; exact hl p hp)] at h2
   exact h2
  ·obtain ⟨k, hkM, hek⟩ := hkey e hem
   have hJ2 : J ss w' := hJ ss wr w' (some W.heap.size) hJs hg2 (fun r e => by cases e; exact ⟨Nat.le_refl _, _, hI.it, rfl⟩)
   have hsn := left_snoc he
   have hplt : pre.length < es.size := by omega
   have hJ3 : J ss (w'.alloc (.cells #[.int .u64 (lim k 0), .int .u64 (lim k 1), .int .u64 (lim k 2), .int .u64 (lim k 3)] 28)) := hJ ss w' _ none hJ2 (World.grownBy_alloc w' _ none) (fun r e => by cases e)
   have hI3 : IterAt (w'.alloc (.cells #[.int .u64 (lim k 0), .int .u64 (lim k 1), .int .u64 (lim k 2), .int .u64 (lim k 3)] 28)) b W.heap.size es clock (pre ++ [e]) := hI2.walks (Below.heap_alloc _ _ _ (Array.getElem?_eq_some_iff.1 hI2.map).1) (Below.heap_alloc _ _ _ (Array.getElem?_eq_some_iff.1 hI2.it).1)
   obtain ⟨fn, tmps, assign, body, hy, hR⟩ := hY ss k _ hJ3 (by rw [hpl, ← hlen]; simpa using hplt)
   have hek2 : e.key = .agg #[.int .u64 (lim k 0), .int .u64 (lim k 1), .int .u64 (lim k 2), .int .u64 (lim k 3)] := hek
   rw [hek2] at hrun hen
   unfold wd at hy
   clear hs2
   gi_wp2
   refine hR.mono ?_
   rintro e' W3 ⟨rfl, hJ4, hk3⟩
   gi_wp2
   have hI4 : IterAt W3 b W.heap.size es clock (pre ++ [e]) := ⟨hk3.same _ _ hI3.map rfl, hI3.st, hk3.same _ _ hI3.it rfl, hI3.sub, hI3.nd⟩
   go_roundw
   case rel =>
    refine ⟨pre ++ [e], ss ++ [k], hI4, ?_, fun j hj => ?_, ?_, hJ4⟩
    ·rw [List.map_append, List.map_append, hpk]; simp [hek]
    ·rcases List.mem_append.1 hj with hj | hj
     ·exact hss j hj
     ·rw [List.mem_singleton.1 hj]; exact hkM
    ·rw [List.length_append, List.length_singleton]; omega
   case measure => rw [hI4.left, hI.left]; exact hsn
/-- maps.Keys(m) hands back an iterator over m's keys -/
theorem keys90_gives (n : Nat) (hn : 1 ≤ n) (Bm b : Nat) (l : List (Nat × Value)) (hl : ∀ p ∈ l, p.1 < M) (w : World) (hBm : Bm < w.heap.size) (hm : w.cell? ⟨Bm, 0, none⟩ = some (.map (some b))) (hM : MapB wd w b l) :
  SeqGives Fence.wide n TryQ.prog 90 #[.pointer (some ⟨Bm, 0, none⟩)] wd (fun ss => ss.Perm (l.map (·.1))) l.length w := fun lp J W hW hJ hY h0 =>
 keys90 n hn lp Bm b l hl J hY W hJ ((hW.cell (p := ⟨Bm, 0, none⟩) hBm).trans hm) (hM.below hW) h0
set_option maxRecDepth 100000 in
theorem keys65 (n : Nat) (mb : Option Nat) (w : World) : CallsIn Fence.wide n TryQ.prog 65 #[.map mb] w fun e w' => e = .returned (.func (.func 90) #[] #[.pointer (some ⟨w.heap.size, 0, none⟩)]) ∧ w' = w.alloc (.cells #[.map mb] 91) := by
 refine callsIn_of_wp TryQ.func65 rfl trivial ?_ rfl
 simp only [Tryz.ntmps65, List.size_toArray, List.length_cons, List.length_nil, Nat.reduceAdd, Nat.reduceSub, Array.replicate_succ, Array.replicate_zero, List.push_toArray, List.append_toArray, List.nil_append, List.cons_append]
 gi_wp2
 go_ret
 exact ⟨rfl, rfl⟩
end Go.Mark
/-
  slices.AppendSeq, slices.Collect at words (101, 88).
-/
namespace Go.Mark
open Go.RowKit Go.Proofs Go.Maps Go.Sort Go.Shelf
/-- the four cells of a word -/
def wc (k : Nat) : List Value := [.int .u64 (lim k 0), .int .u64 (lim k 1), .int .u64 (lim k 2), .int .u64 (lim k 3)]
def flatW : List Nat → List Value
  | [] => []
  | k :: l => wc k ++ flatW l
theorem flatW_append : ∀ (a b : List Nat), flatW (a ++ b) = flatW a ++ flatW b
  | [], _ => rfl
  | k :: a, b => by rw [List.cons_append, flatW, flatW, flatW_append a b, List.append_assoc]
theorem info28 : ∃ i z, TryQ.prog.info? 28 = some i ∧ i.zero = some z ∧ i.size = 4 ∧ i.bytes = 32 ∧ z.cells.size = 4 := by
  have e8 : (TryQ.prog.info? 28).map (·.size) = some 4 := by kernel_rfl
  have e64 : (TryQ.prog.info? 28).map (·.bytes) = some 32 := by kernel_rfl
  have ez : ((TryQ.prog.info? 28).bind (·.zero)).map (·.cells.size) = some 4 := by kernel_rfl
  obtain ⟨i, hi⟩ : ∃ i, TryQ.prog.info? 28 = some i := by
    cases h : TryQ.prog.info? 28 with
    | none => rw [h] at e8; cases e8
    | some i => exact ⟨i, rfl⟩
  rw [hi] at e8 e64 ez
  replace ez : i.zero.map (·.cells.size) = some 4 := ez
  cases hz : i.zero with
  | none => rw [hz] at ez; cases ez
  | some z => rw [hz] at ez; exact ⟨i, z, hi, hz, Option.some.inj e8, Option.some.inj e64, Option.some.inj ez⟩
theorem u142 : TryQ.prog.underlying 142 = some (.slice 28) := (q_underlying 142).trans Tryz.underlying142
def apAssign : Code := .region 2 #[{ dst := some 5, op := .alloc 28, type := 0, pos := "iter.go:51", after := #[], guard := none }, { dst := none, op := .store 28 (.tmp 5) (.tmp 7), type := 0, pos := "iter.go:51", after := #[{ on := 0, ground := .data }, { on := 0, ground := .phase }], guard := none }] false
def apBody : Code := .block 1 (.region 3 #[{ dst := some 8, op := .load 142 (.tmp 2), type := 142, pos := "iter.go:52", after := #[], guard := none }, { dst := some 9, op := .load 28 (.tmp 5), type := 28, pos := "iter.go:52", after := #[], guard := none }, { dst := some 10, op := .buildSlice 142 1 #[(0, .tmp 9)], type := 142, pos := "iter.go:52", after := #[{ on := 1, ground := .data }], guard := none }, { dst := some 11, op := .call { callee := .builtin .append, args := #[.tmp 8, .tmp 10], argTypes := #[142, 142] }, type := 142, pos := "iter.go:52", after := #[{ on := 0, ground := .data }, { on := 2, ground := .data }], guard := none }, { dst := none, op := .store 142 (.tmp 2) (.tmp 11), type := 0, pos := "iter.go:52", after := #[{ on := 3, ground := .data }, { on := 3, ground := .chain }, { on := 0, ground := .phase }, { on := 1, ground := .phase }, { on := 2, ground := .phase }, { on := 3, ground := .phase }], guard := none }] false)
/-- the loop's record -/
def apRec (fn : FuncId) (sv : Value) (Bs D : Nat) (st : LoopState) (pend : Option Code) : Loop :=
  { state := st, pending := pend, fn, tmps := #[.slice none 0 0, sv, .pointer (some ⟨Bs, 0, none⟩), undef, .slice none 0 0, undef, sv, undef, undef, undef, undef, undef, undef], params := #[7], assign := apAssign, body := apBody, defers := D }
/-- between two rounds: the box holds what has come so far -/
structure ApAt (w0 : World) (fn : FuncId) (sv : Value) (Bs l D : Nat) (ss : List Nat) (W : World) : Prop where
  box : ∃ v, W.heap[Bs]? = some (.cells #[v] 142 (0, 0)) ∧ W.ownsRow w0.heap.size 28 4 v ss.length (flatW ss)
  L : W.heap[l]? = some (.loop (apRec fn sv Bs D .ready none))
  K : W.heap[D]? = some (.deferred (some []))
  below : Below w0.heap.size w0 W
theorem ap_abides (w0 : World) (fn : FuncId) (sv : Value) (Bs l D B : Nat) (hB : w0.heap.size ≤ B) : AbidesFrom B (ApAt w0 fn sv Bs l D) := fun s W W' row h hg hrow => by
  have hrow' : ∀ r, row = some r → ∃ o : Obj, W.heap[r]? = some o ∧ o.isWalk = true := fun r e => (hrow r e).2
  obtain ⟨v, hv, hr⟩ := h.box
  exact ⟨⟨v, (grownBy_keeps hg hrow' hv rfl).trans hv, ownsRow_abides_a hr hg hrow'⟩, (grownBy_keeps hg hrow' h.L rfl).trans h.L, (grownBy_keeps hg hrow' h.K rfl).trans h.K,
    h.below.grown hg h.below.size (fun k e => Nat.le_trans hB (hrow k e).1)⟩
set_option maxRecDepth 100000 in
set_option maxHeartbeats 4000000 in
theorem apYield (m : Nat) (w0 : World) (fn : FuncId) (sv : Value) (Bs l D : Nat) (hBl : Bs ≠ l) (hDl : D ≠ l) (hDB : D ≠ Bs) (h0B : w0.heap.size ≤ Bs) (h0l : w0.heap.size ≤ l)
    (N : Nat) (hN : N < 1000000000) (ss : List Nat) (x : Nat) (W : World) (h : ApAt w0 fn sv Bs l D ss W) (hlen : ss.length < N) :
    YieldAt Fence.wide m TryQ.prog l #[wd x] W fun e W' => e = .returned (.bool true) ∧ ApAt w0 fn sv Bs l D (ss ++ [x]) W' ∧ KeepsWalks W W' := by
  obtain ⟨i0, z0, hi, hz0, hz1, hz2, hz3⟩ := info28
  obtain ⟨v, hv, hrow⟩ := h.box
  refine ⟨fn, #[.slice none 0 0, sv, .pointer (some ⟨Bs, 0, none⟩), undef, .slice none 0 0, undef, sv, wd x, undef, undef, undef, undef, undef], apAssign, apBody, by simpa [apRec] using run_yield (P := TryQ.prog) (args := #[wd x]) h.L rfl, roundIn_of_wpIn trivial ?_⟩
  obtain ⟨W1, hW1⟩ : ∃ W1, W.alloc (.cells (wc x).toArray 28) = W1 := ⟨_, rfl⟩
  have hx1 : CellsAt W1 W.heap.size 0 (wc x) := by rw [← hW1]; exact cells_new W (wc x) 28
  have hk1 : KeepsWalks W W1 := by rw [← hW1]; exact KeepsWalks.alloc _ _
  have hb1 : Below W.heap.size W W1 := by rw [← hW1]; exact (Below.refl _ _).alloc (Nat.le_refl _) _
  have hL1 : W1.heap[l]? = some (.loop (apRec fn sv Bs D .ready none)) := (hb1.block l (Array.getElem?_eq_some_iff.1 h.L).1).trans h.L
  have hv1 : W1.heap[Bs]? = some (.cells #[v] 142 (0, 0)) := (hb1.block Bs (Array.getElem?_eq_some_iff.1 hv).1).trans hv
  have hK1 : W1.heap[D]? = some (.deferred (some [])) := (hb1.block D (Array.getElem?_eq_some_iff.1 h.K).1).trans h.K
  have hr1 := own_below hrow hb1
  have hB1 : Below w0.heap.size w0 W1 := h.below.trans (hb1.mono h.below.size)
  have hxo : ∃ cur, W1.heap[W.heap.size]? = some (.cells cur 28 (0, 0)) := by rw [← hW1]; exact ⟨_, heap_alloc_new W _⟩
  have hl : l < W1.heap.size := (Array.getElem?_eq_some_iff.1 hL1).1
  have hbr := run_beginRound (P := TryQ.prog) hL1 rfl
  obtain ⟨W2, hW2⟩ : ∃ W2, W1.putObj l (.loop { apRec fn sv Bs D .ready none with state := .busy }) = W2 := ⟨_, rfl⟩
  rw [hW2] at hbr
  have hg2 : W1.grownBy W2 (some l) := by rw [← hW2]; exact grownBy_putObj_a _ _ _
  have hk2 : KeepsWalks W1 W2 := by rw [← hW2]; exact KeepsWalks.putObj _ hL1 rfl
  have hv2 : W2.heap[Bs]? = some (.cells #[v] 142 (0, 0)) := by rw [← hW2]; exact (World.putObj_heap_other hBl).trans hv1
  have hK2 : W2.heap[D]? = some (.deferred (some [])) := by rw [← hW2]; exact (World.putObj_heap_other hDl).trans hK1
  have hL2 : W2.heap[l]? = some (.loop { apRec fn sv Bs D .ready none with state := .busy }) := by rw [← hW2]; exact World.putObj_heap_same hl
  have hxl : W.heap.size ≠ l := by have := (Array.getElem?_eq_some_iff.1 h.L).1; omega
  have hx2 : CellsAt W2 W.heap.size 0 (wc x) := fun j u hj => (hg2.cell_far ⟨W.heap.size, 0 + j, none⟩ (by obtain ⟨c, hc⟩ := hxo; exact (Array.getElem?_eq_some_iff.1 hc).1) (fun e => hxl (by cases e; rfl))).trans (hx1 j u hj)
  have hrow2 : W2.ownsRow w0.heap.size 28 4 v ss.length (flatW ss) := hr1.kept hg2 (ownsRow_ne_a hr1 hL1 (fun cur e => by cases e))
  have hb2 : Below w0.heap.size w0 W2 := hB1.grown hg2 hB1.size (fun k e => by cases e; exact h0l)
  obtain ⟨hc2, hf2⟩ := cell_of_box_a hv2
  have hBlt : Bs < W2.heap.size := (Array.getElem?_eq_some_iff.1 hv2).1
  have hl2 : l < W2.heap.size := (Array.getElem?_eq_some_iff.1 hL2).1
  have hDlt : D < W2.heap.size := (Array.getElem?_eq_some_iff.1 hK2).1
  clear hW2
  unfold apAssign
  unfold wd
  gi_wp2_with gi_round_op_a
  change ∃ w₂, Sem.run TryQ.prog (Instr.beginRound l) (W.alloc (.cells (wc x).toArray 28)) = Result.ok () w₂ ∧ _
  rw [hW1]
  refine ⟨W2, hbr, ?_⟩
  generalize W.heap.size = xb at hx2 ⊢
  have x0 := hx2 0 _ rfl
  have x1 := hx2 1 _ rfl
  have x2 := hx2 2 _ rfl
  have x3 := hx2 3 _ rfl
  simp only [Nat.zero_add] at x0 x1 x2 x3
  have hown3 : (W2.alloc (.cells (wc x).toArray 28)).ownsRow w0.heap.size 28 4 v ss.length (flatW ss) := hrow2.alloc _
  have hn3 := cells_new W2 (wc x) 28
  have ne_of : ∀ {j : Nat} {o : Obj}, W2.heap[j]? = some o → (∀ cur, o ≠ .cells cur 28 (0, 0)) → some j ≠ v.ownBlock := fun hj hno => by
    rcases ownsRow_ne_a hrow2 hj hno with e | e
    · rw [e]; simp
    · exact fun e' => e e'.symm
  unfold apBody
  gi_wp2_with (first
    | (gi_at_builtin; refine wpListIn_append_own _ rfl _ _ 142 rfl w0.heap.size 28 i0 z0 4 32 u142 hi hz0 hz1 hz2 hz3 (by decide) v ss.length (flatW ss) rfl hown3 ⟨W2.heap.size, 0, none⟩ 1 1 (wc x) rfl rfl (fun j v hj => by rw [Addr.add_mid]; exact hn3 j v hj) (fun u hu => by simp only [wc, List.mem_cons, List.not_mem_nil, or_false] at hu; rcases hu with rfl | rfl | rfl | rfl <;> rfl) (by simp [maxLen]; omega) (by omega) (by have := hb2.size; simp; omega) ?_; intro v' w3 hown' hg3 hnil3
       have hv3 : w3.heap[Bs]? = some (.cells #[v] 142 (0, 0)) := (hg3.block Bs (by simp; omega) (ne_of hv2 (fun cur e => by cases e))).trans ((Below.heap_alloc _ _ Bs hBlt).trans hv2)
       obtain ⟨hc3, hf3⟩ := cell_of_box_a hv3
       obtain ⟨g', cap', cur', rfl, hbase', hgb', hr1, hr2, hr3, hr4⟩ : ∃ g' cap' cur', v' = .slice (some ⟨g', 0, none⟩) (ss.length + 1) cap' ∧ w0.heap.size ≤ g' ∧ w3.heap[g']? = some (.cells cur' 28 (0, 0)) ∧ ss.length + 1 ≤ cap' ∧ cap' ≤ maxLen ∧ cur'.size = cap' * 4 ∧ cur'.toList.take ((ss.length + 1) * 4) = flatW ss ++ wc x := by
         rcases hown'.2 with ⟨_, h0⟩ | h'
         · exact absurd h0 (by omega)
         · exact h'
       go_frame)
    | gi_round_op_a)
  have hg3' : (W2.alloc (.cells (wc x).toArray 28)).grownBy w3 v.ownBlock := hg3
  have hL3 : w3.heap[l]? = some (.loop { apRec fn sv Bs D .ready none with state := .busy }) := (hg3'.block l (by simp; omega) (ne_of hL2 (fun cur e => by cases e))).trans ((Below.heap_alloc _ _ l hl2).trans hL2)
  have hK3 : w3.heap[D]? = some (.deferred (some [])) := (hg3'.block D (by simp; omega) (ne_of hK2 (fun cur e => by cases e))).trans ((Below.heap_alloc _ _ D hDlt).trans hK2)
  obtain ⟨w4, hw4⟩ : ∃ w4, w3.setCell ⟨Bs, 0, none⟩ (.slice (some ⟨g', 0, none⟩) (ss.length + 1) cap') = w4 := ⟨_, rfl⟩
  rw [hw4]
  have hg4 : w3.grownBy w4 (some Bs) := by rw [← hw4]; exact grownBy_setCell0_a _ _ _
  have hv4 : w4.heap[Bs]? = some (.cells #[.slice (some ⟨g', 0, none⟩) (ss.length + 1) cap'] 142 (0, 0)) := by rw [← hw4]; exact heap_setCell_box_a _ hv3
  have hL4 : w4.heap[l]? = some (.loop { apRec fn sv Bs D .ready none with state := .busy }) := (hg4.block l (Array.getElem?_eq_some_iff.1 hL3).1 (fun e => hBl (by cases e; rfl))).trans hL3
  have hK4 : w4.heap[D]? = some (.deferred (some [])) := (hg4.block D (Array.getElem?_eq_some_iff.1 hK3).1 (fun e => hDB (by cases e; rfl))).trans hK3
  have hrow4 := hown'.kept hg4 (ownsRow_ne_a hown' hv3 (fun cur e => by cases e))
  have hl4 : l < w4.heap.size := (Array.getElem?_eq_some_iff.1 hL4).1
  have hb3 : Below w0.heap.size w0 w3 := (hb2.alloc hb2.size _).grown hg3' (by have := hb2.size; simp; omega) (fun k e => (hrow2.lt k e).1)
  have hb4 : Below w0.heap.size w0 w4 := hb3.grown hg4 hb3.size (fun k e => by cases e; exact h0B)
  have hk4 : KeepsWalks W w4 := (((hk1.trans hk2).trans (KeepsWalks.alloc _ _)).trans (KeepsWalks.of_grownBy hg3' (ownsRow_not_walk_a (hrow2.alloc _)))).trans (by rw [← hw4]; exact KeepsWalks.setCell _ _ _)
  clear hw4
  refine ⟨_, _, run_endRound none hL4, rfl, ⟨⟨_, (World.putObj_heap_other hBl).trans hv4, ?_⟩, World.putObj_heap_same hl4, (World.putObj_heap_other hDl).trans hK4, hb4.grown (grownBy_putObj_a _ _ _) hb4.size (fun k e => by cases e; exact h0l)⟩, hk4.trans (KeepsWalks.putObj _ hL4 rfl)⟩
  have := hrow4.kept (grownBy_putObj_a w4 l (.loop { { apRec fn sv Bs D .ready none with state := .busy } with state := if (none : Option Code).isNone then .ready else .done, pending := none })) (ownsRow_ne_a hrow4 hL4 (fun cur e => by cases e))
  have hfl : flatW (ss ++ [x]) = flatW ss ++ wc x := by rw [flatW_append, flatW, flatW, List.append_nil]
  rw [List.length_append, List.length_singleton, hfl]
  exact this
set_option maxRecDepth 100000 in
set_option maxHeartbeats 4000000 in
/-- slices.AppendSeq(nil, seq): what the iterator gave, in that order -/
theorem appendSeq (n : Nat) (hn : 2 ≤ n) (g : Nat) (lb : Array Value) (eg : ∀ args w, (callFunc g args).run TryQ.prog w = .ok (.enter g args) w)
    (S : List Nat → Prop) (N : Nat) (hN : N < 1000000000) (w : World) (hseq : SeqGives Fence.wide (n - 1) TryQ.prog g lb wd S N w) :
    CallsIn Fence.wide n TryQ.prog 101 #[.slice none 0 0, .func (.func g) #[] lb] w fun e w' => ∃ (v : Value) (ss : List Nat), e = .returned v ∧ S ss ∧ w'.ownsRow w.heap.size 28 4 v ss.length (flatW ss) ∧ Below w.heap.size w w' := by
  have h1 : 1 ≤ n := by omega
  refine callsIn_of_wp_marks TryQ.func101 rfl trivial ?_ rfl
  simp only [Tryz.ntmps101, List.size_toArray, List.length_cons, List.length_nil, Nat.reduceAdd, Nat.reduceSub, Array.replicate_succ, Array.replicate_zero, List.push_toArray, List.append_toArray, List.nil_append, List.cons_append]
  gi_wp2
  refine wpIn_rangeFunc ?_
  intro fn hfn
  obtain ⟨W0, hW0⟩ : ∃ W0, w.alloc (.cells #[.slice none 0 0] 142) = W0 := ⟨_, rfl⟩
  have hs0 : W0.heap.size = w.heap.size + 1 := by rw [← hW0]; simp
  have hv0 : W0.heap[w.heap.size]? = some (.cells #[.slice none 0 0] 142 (0, 0)) := by rw [← hW0]; exact World.alloc_heap_new w _
  have hb0 : Below w.heap.size w W0 := by rw [← hW0]; exact (Below.refl _ w).alloc (Nat.le_refl _) _
  rw [hW0]
  obtain ⟨W1, hW1⟩ : ∃ W1, (W0.alloc (.deferred (some []))).alloc (.loop (apRec fn (.func (.func g) #[] lb) w.heap.size W0.heap.size .ready none)) = W1 := ⟨_, rfl⟩
  have hold : ∀ k, k < W0.heap.size → W1.heap[k]? = W0.heap[k]? := fun k hk => by
    rw [← hW1]; exact (Below.heap_alloc _ _ k (by simp; omega)).trans (Below.heap_alloc _ _ k hk)
  have hb1 : Below w.heap.size w W1 := by rw [← hW1]; exact (hb0.alloc hb0.size _).alloc (by have := hb0.size; simp; omega) _
  have hs1 : W1.heap.size = W0.heap.size + 2 := by rw [← hW1]; simp
  have hM : ApAt w fn (.func (.func g) #[] lb) w.heap.size (W0.heap.size + 1) W0.heap.size [] W1 :=
    ⟨⟨_, (hold w.heap.size (by omega)).trans hv0, ⟨rfl, .inl ⟨rfl, rfl⟩⟩⟩,
     by rw [← hW1]; have := World.alloc_heap_new (W0.alloc (.deferred (some []))) (.loop (apRec fn (.func (.func g) #[] lb) w.heap.size W0.heap.size .ready none)); rwa [World.size_alloc] at this,
     by rw [← hW1]; exact (Below.heap_alloc _ _ _ (by simp)).trans (World.alloc_heap_new W0 _), hb1⟩
  refine ⟨W0.heap.size + 1, [{ target := .collected W0.heap.size, args := #[] }], W1, { target := .fn (.func g) lb, args := #[.func (.yield (W0.heap.size + 1)) #[] #[]] }, W1, g,
    #[.func (.yield (W0.heap.size + 1)) #[] #[]] ++ lb, W1, ?_, ?_, ?_, ?_, fun _ => h1, ?_⟩
  · rw [← hW1]; exact run_enterLoop_outer _ _ _ _ _
  · simp [resolve, go_sem]
  · intro f' hf'; trivial
  · simp [invoke, go_sem, eg]
  · refine (hseq (W0.heap.size + 1) (ApAt w fn (.func (.func g) #[] lb) w.heap.size (W0.heap.size + 1) W0.heap.size) W1 hb1 (ap_abides _ _ _ _ _ _ _ hb1.size)
      (fun pre x W hJ hl => apYield (n - 1 - 1) w fn _ w.heap.size (W0.heap.size + 1) W0.heap.size (by omega) (by omega) (by omega) (Nat.le_refl _) (by omega) N hN pre x W hJ hl) hM).mono ?_
    rintro e W2 ⟨⟨v0, rfl⟩, ss, hS, h2⟩
    obtain ⟨v, hv, hrow⟩ := h2.box
    have hend := run_endLoop (P := TryQ.prog) h2.L (by simp [apRec])
    obtain ⟨W3, hW3⟩ : ∃ W3, W2.putObj (W0.heap.size + 1) (.loop { apRec fn (.func (.func g) #[] lb) w.heap.size W0.heap.size .ready none with state := .exhausted }) = W3 := ⟨_, rfl⟩
    rw [hW3] at hend
    have hg3 : W2.grownBy W3 (some (W0.heap.size + 1)) := by rw [← hW3]; exact grownBy_putObj_a _ _ _
    have hv3 : W3.heap[w.heap.size]? = some (.cells #[v] 142 (0, 0)) := by rw [← hW3]; exact (World.putObj_heap_other (by omega)).trans hv
    have hK3 : W3.heap[W0.heap.size]? = some (.deferred (some [])) := by rw [← hW3]; exact (World.putObj_heap_other (by omega)).trans h2.K
    have hrow3 := hrow.kept hg3 (ownsRow_ne_a hrow h2.L (fun cur e => by cases e))
    have hb3 : Below w.heap.size w W3 := h2.below.grown hg3 h2.below.size (fun k e => by cases e; omega)
    obtain ⟨hc3, hf3⟩ := cell_of_box_a hv3
    clear hW3
    refine ⟨none, W3, hend, ?_⟩
    gi_wp2
    rw [← hs0]
    refine ⟨by simp, .inl ⟨_, _, rfl, run_takeDeferred hK3, ?_⟩⟩
    exact ⟨_, results_tmp rfl _ _ _, v, ss, rfl, hS, hrow3.kept (grownBy_putObj_a _ _ _) (ownsRow_ne_a hrow3 hK3 (fun cur e => by cases e)), hb3.grown (grownBy_putObj_a _ _ _) hb3.size (fun k e => by cases e; omega)⟩
set_option maxRecDepth 100000 in
set_option maxHeartbeats 1000000 in
/-- slices.Collect(seq) -/
theorem collect88 (n : Nat) (hn : 3 ≤ n) (g : Nat) (lb : Array Value) (eg : ∀ args w, (callFunc g args).run TryQ.prog w = .ok (.enter g args) w)
    (S : List Nat → Prop) (N : Nat) (hN : N < 1000000000) (w : World) (hseq : SeqGives Fence.wide (n - 1 - 1) TryQ.prog g lb wd S N w) :
    CallsIn Fence.wide n TryQ.prog 88 #[.func (.func g) #[] lb] w fun e w' => ∃ (v : Value) (ss : List Nat), e = .returned v ∧ S ss ∧ w'.ownsRow w.heap.size 28 4 v ss.length (flatW ss) ∧ Below w.heap.size w w' := by
  have h1 : 1 ≤ n := by omega
  have hfn : Fence.wide.fn 101 := trivial
  refine callsIn_of_wp TryQ.func88 rfl trivial ?_ rfl
  simp only [Tryz.ntmps88, List.size_toArray, List.length_cons, List.length_nil, Nat.reduceAdd, Nat.reduceSub, Array.replicate_succ, Array.replicate_zero, List.push_toArray, List.append_toArray, List.nil_append, List.cons_append]
  gi_wp2_with (gi_at_call 101; refine (appendSeq (n - 1) (by omega) g lb eg S N hN _ hseq).mono ?_; rintro e w' ⟨v, ss, rfl, hS, hrow, hb⟩)
  go_ret
  exact ⟨v, ss, rfl, hS, hrow, hb⟩
end Go.Mark
