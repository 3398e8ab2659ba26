import Derived.Test.YtbephahokhnccaaGreatDoorXF10toF18
set_option maxRecDepth 100000
namespace Go.Mark
open Go.RowKit Go.Proofs Go.MapKept Go.ChangeMaps
def Stamps (es : List MapEntry) (clock : Nat) : Prop := (∀ x ∈ es, x.born < clock) /\ (es.map (·.born)).Nodup
section
variable {κ : Type}
def MapB (kf : κ -> Value) (w : World) (r : Nat) (l : List (κ × Value)) : Prop := ∃ es clock, w.heap[r]? = some (.map es clock) /\ Reads kf es.toList l /\ Stamps es.toList clock
theorem MapB.mapL {kf : κ -> Value} {w : World} {r : Nat} {l : List (κ × Value)} (h : MapB kf w r l) : MapL kf w r l := let ⟨es, c, h1, h2, _⟩ := h; ⟨es, c, h1, h2⟩
theorem MapB.same {kf : κ -> Value} {w w' : World} {r : Nat} {l : List (κ × Value)} (h : MapB kf w r l) (e : w'.heap[r]? = w.heap[r]?) : MapB kf w' r l := let ⟨es, c, hb, hR⟩ := h; ⟨es, c, e.trans hb, hR⟩
theorem MapB.lt {kf : κ -> Value} {w : World} {r : Nat} {l : List (κ × Value)} (h : MapB kf w r l) : r < w.heap.size := let ⟨_, _, hb, _⟩ := h; (Array.getElem?_eq_some_iff.1 hb).1
theorem MapB.below {kf : κ -> Value} {w w' : World} {r : Nat} {l : List (κ × Value)} (h : MapB kf w r l) (hb : Below w.heap.size w w') : MapB kf w' r l := h.same (hb.block r h.lt)
theorem MapB.new (kf : κ -> Value) (w : World) : MapB kf (w.alloc (.map #[] 0)) w.heap.size [] := ⟨#[], 0, by show (w.heap.push _)[w.heap.size]? = _; rw [Array.getElem?_push_size], rfl, by simp [Stamps]⟩
variable [DecidableEq κ]
theorem run_mapUpdateB {kt et mt : TypeId} {kf : κ -> Value} {ok : κ -> Prop} (K : Keys kt kf ok) (hm : TryQ.prog.underlying mt = some (.map kt et)) {w : World} {r : Nat} {l : List (κ × Value)} {k : κ} {v : Value} (hM : MapB kf w r l) (hk : ok k) (hl : ∀ p ∈ l, ok p.1) :
  ∃ es clock, (Instr.mapUpdate mt (.map (some r)) (kf k) v).run TryQ.prog w = .ok () { w with heap := w.heap.setIfInBounds r (.map es clock) } /\ MapB kf { w with heap := w.heap.setIfInBounds r (.map es clock) } r (updL k v l) := by
 obtain ⟨es, clock, hb, hR, hS⟩ := hM
 have hf := K.find k es.toList l w hk hl hR
 have hlt : r < w.heap.size := (Array.getElem?_eq_some_iff.1 hb).1
 have hset : ∀ o : Obj, (w.heap.setIfInBounds r o)[r]? = some o := fun o => by simp [hlt]
 have hg : (getObj r).run TryQ.prog w = .ok (.map es clock) w := by simp [getObj, Sem.run, hb]
 have hs : ∀ o : Obj, (setObj r o).run TryQ.prog w = .ok () { w with heap := w.heap.setIfInBounds r o } := fun o => by simp [setObj, Sem.run, hb]
 unfold Instr.mapUpdate
 cases h : findL k l 0 with
 | none =>
  refine ⟨es.push { key := kf k, val := v, born := clock }, clock + 1, ?_, _, _, hset _, hR.push h es clock, ?_⟩
  ·simp [run_underlying hm, hg, hs, K.chk, hf, h]
  ·refine ⟨fun x hx => ?_, ?_⟩
   ·rw [Array.toList_push] at hx
    rcases List.mem_append.1 hx with hx | hx
    ·exact Nat.lt_succ_of_lt (hS.1 x hx)
    ·rw [List.mem_singleton.1 hx]; exact Nat.lt_succ_self _
   ·rw [Array.toList_push, List.map_append]
    refine List.nodup_append.2 ⟨hS.2, by simp, fun a ha b hb e => ?_⟩
    obtain ⟨x, hx, rfl⟩ := List.mem_map.1 ha
    have := hS.1 x hx
    simp at hb
    omega
 | some p =>
  obtain ⟨j, x⟩ := p
  obtain ⟨h1, h2⟩ := hR.upd (v := v) h es
  refine ⟨es.modify j fun e => { e with key := kf k, val := v }, clock, ?_, _, _, hset _, h2, ?_⟩
  ·simp [run_underlying hm, hg, hs, K.chk, hf, h, Instr.keyThatStays, h1, K.bits]
  ·have hmap : (es.modify j fun e => { e with key := kf k, val := v }).toList.map (·.born) = es.toList.map (·.born) := by
    apply List.ext_getElem?
    intro i
    simp only [List.getElem?_map, Array.getElem?_toList, Array.getElem?_modify]
    by_cases hij : j = i
    ·subst hij; cases es[j]? <;> simp
    ·simp [hij]
   refine ⟨fun x hx => ?_, by rw [hmap]; exact hS.2⟩
   have : x.born ∈ (es.modify j fun e => { e with key := kf k, val := v }).toList.map (·.born) := List.mem_map_of_mem hx
   rw [hmap] at this
   obtain ⟨y, hy, e⟩ := List.mem_map.1 this
   rw [<- e]
   exact hS.1 y hy
theorem upon_mapUpdateB {kt et mt : TypeId} {kf : κ -> Value} {ok : κ -> Prop} (K : Keys kt kf ok) (hm : TryQ.prog.underlying mt = some (.map kt et)) {W : World} {r : Nat} {l : List (κ × Value)} {k : κ} {v : Value} {o : Oper} {a : Act} {next : Act -> World -> Prop} {Q : Exit -> Act -> World -> Prop} (hM : MapB kf W r l) (hk : ok k) (hl : ∀ p ∈ l, ok p.1)
  (h : ∀ o', MapB kf { W with heap := W.heap.setIfInBounds r o' } r (updL k v l) -> next (a.put o.dst undef) { W with heap := W.heap.setIfInBounds r o' }) :
  Oper.upon TryQ.prog o a next Q ((Sem.run TryQ.prog (Instr.mapUpdate mt (.map (some r)) (kf k) v) W).andThen fun _ w' => .ok .skip w') := by
 obtain ⟨es, clock, hrun, hM'⟩ := run_mapUpdateB K hm (v := v) hM hk hl
 rw [hrun]
 exact h _ hM'
end
structure IterAt (w : World) (b r : Nat) (es : Array MapEntry) (clock : Nat) (pre : List MapEntry) : Prop where
 map : w.heap[b]? = some (.map es clock)
 st : Stamps es.toList clock
 it : w.heap[r]? = some (.mapIter (some b) clock (pre.map (·.born)).toArray clock)
 sub : ∀ e ∈ pre, e ∈ es.toList
 nd : (pre.map (·.born)).Nodup
theorem IterAt.start {w : World} {b : Nat} {es : Array MapEntry} {clock : Nat} (hb : w.heap[b]? = some (.map es clock)) (hs : Stamps es.toList clock) : IterAt (w.alloc (.mapIter (some b) clock #[] clock)) b w.heap.size es clock [] :=
 ⟨(Below.heap_alloc w _ b (Array.getElem?_eq_some_iff.1 hb).1).trans hb, hs, by show (w.heap.push _)[w.heap.size]? = _; rw [Array.getElem?_push_size]; rfl, by simp, by simp⟩
theorem IterAt.walks {w w' : World} {b r : Nat} {es : Array MapEntry} {clock : Nat} {pre : List MapEntry} (h : IterAt w b r es clock pre) (h1 : w'.heap[b]? = w.heap[b]?) (h2 : w'.heap[r]? = w.heap[r]?) : IterAt w' b r es clock pre := ⟨h1.trans h.map, h.st, h2.trans h.it, h.sub, h.nd⟩
theorem nd_of_map {α β : Type} {f : α -> β} {l : List α} (h : (l.map f).Nodup) : l.Nodup := (List.pairwise_map.1 h).imp fun h e => h (congrArg f e)
theorem born_inj' {es : List MapEntry} (h : (es.map (·.born)).Nodup) {x y : MapEntry} (hx : x ∈ es) (hy : y ∈ es) (e : x.born = y.born) : x = y := by
 obtain ⟨i, hi, rfl⟩ := List.mem_iff_getElem.1 hx
 obtain ⟨j, hj, rfl⟩ := List.mem_iff_getElem.1 hy
 have hn := List.pairwise_iff_getElem.1 h
 rcases Nat.lt_trichotomy i j with hij | hij | hij
 ·have := hn i j (by simpa using hi) (by simpa using hj) hij
  simp [e] at this
 ·subst hij; rfl
 ·have := hn j i (by simpa using hj) (by simpa using hi) hij
  simp [e] at this
theorem IterAt.next {w : World} {b r : Nat} {es : Array MapEntry} {clock : Nat} {pre : List MapEntry} (h : IterAt w b r es clock pre) (hne : b ≠ r) (ty : TypeId) :
  (pre.Perm es.toList /\ (Instr.next (.pointer (some ⟨r, 0, none⟩)) false ty).run TryQ.prog w = .ok (.tuple #[.bool false]) w) \/
  ∃ e w', e ∈ es.toList /\ e ∈ (leftOf es (pre.map (·.born)).toArray).toList /\ (Instr.next (.pointer (some ⟨r, 0, none⟩)) false ty).run TryQ.prog w = .ok (.tuple #[.bool true, e.key, e.val]) w' /\ IterAt w' b r es clock (pre ++ [e]) /\ w.grownBy w' (some r) /\ w'.heap.size = w.heap.size /\
   (Instr.entry (.pointer (some ⟨r, 0, none⟩))).run TryQ.prog w' = .ok (.tuple #[e.key, e.val]) w' := by
 rcases run_next_at (P := TryQ.prog) w ty r b clock clock (pre.map (·.born)).toArray es clock h.it h.map h.st.1 (Nat.le_refl _) with ⟨h0, hrun⟩ | ⟨e, he, w1, hal, hrun⟩
 ·refine .inl ⟨?_, hrun⟩
  have hall := all_seen es _ h0
  have hn1 : pre.Nodup := nd_of_map h.nd
  have hn2 : es.toList.Nodup := nd_of_map h.st.2
  refine (List.perm_ext_iff_of_nodup hn1 hn2).2 fun x => ⟨h.sub x, fun hx => ?_⟩
  have := hall x hx
  simp only [List.contains_toArray, List.contains_iff_mem] at this
  obtain ⟨y, hy, e⟩ := List.mem_map.1 this
  rw [<- born_inj' h.st.2 (h.sub y hy) hx e]
  exact hy
 ·obtain ⟨hem, hes⟩ := mem_left he
  have hnp : e ∉ pre := fun hp => by
   have : (pre.map (·.born)).contains e.born = true := by simp only [List.contains_iff_mem]; exact List.mem_map_of_mem hp
   rw [List.contains_toArray] at hes
   rw [hes] at this
   cases this
  have hr1 : w1.heap[r]? = some (.mapIter (some b) clock (pre.map (·.born)).toArray clock) := by rcases hal with rfl | rfl <;> exact h.it
  have hb1 : w1.heap[b]? = some (.map es clock) := by rcases hal with rfl | rfl <;> exact h.map
  have hset := MapKept.heap_set (o' := .mapIter (some b) clock ((pre.map (·.born)).toArray.push e.born) clock) hr1
  have hb' : (setBlock w1 r (.mapIter (some b) clock ((pre.map (·.born)).toArray.push e.born) clock)).heap[b]? = some (.map es clock) := (hset.2 b hne).trans hb1
  refine .inr ⟨e, _, hem, he, hrun, ⟨hb', h.st, ?_, fun x hx => ?_, ?_⟩, ?_, ?_, run_entry_at _ r b clock _ es clock e hset.1 hb' hem h.st.2⟩
  ·refine hset.1.trans ?_; simp
  ·rcases List.mem_append.1 hx with hx | hx
   ·exact h.sub x hx
   ·rw [List.mem_singleton.1 hx]; exact hem
  ·rw [List.map_append]
   refine List.nodup_append.2 ⟨h.nd, by simp, fun a ha c hc e' => ?_⟩
   obtain ⟨y, hy, rfl⟩ := List.mem_map.1 ha
   simp only [List.map_cons, List.map_nil, List.mem_singleton] at hc
   rw [hc] at e'
   exact hnp (born_inj' h.st.2 (h.sub y hy) hem e' ▸ hy)
  ·rcases hal with rfl | rfl <;> exact ⟨rfl, rfl, rfl, by simp [setBlock], fun i _ hi => hset.2 i (fun e1 => hi (by rw [e1]))⟩
  ·rcases hal with rfl | rfl <;> simp [setBlock]
theorem IterAt.left {w : World} {b r : Nat} {es : Array MapEntry} {clock : Nat} {pre : List MapEntry} (h : IterAt w b r es clock pre) : w.rangeLeft b r = (leftOf es (pre.map (·.born)).toArray).size := by
 unfold World.rangeLeft
 rw [h.map, h.it]
theorem left_snoc {es : Array MapEntry} {pre : List MapEntry} {e : MapEntry} (he : e ∈ (leftOf es (pre.map (·.born)).toArray).toList) : (leftOf es ((pre ++ [e]).map (·.born)).toArray).size < (leftOf es (pre.map (·.born)).toArray).size := by
 have := left_shrinks es _ e he
 simpa using this
end Go.Mark
set_option maxRecDepth 100000
set_option maxHeartbeats 2000000
namespace Go.Mark
open Go.RowKit Go.Proofs
theorem keptSlotsR (ss : List (Nat × Nat)) (a : Option Addr) (cap : Nat) (w : World) (hA : ss = [] \/ ∃ b o, a = some ⟨b, o, none⟩ /\ SlotsFrom w b o ss) (hn : ss.length < 2199023255552) (hm : ∀ p ∈ ss, p.1 < M /\ p.2 < M) (hnd : (ss.map (·.1)).Nodup) :
  Calls TryQ.prog 62 #[.slice a ss.length cap] w fun e w' => e = .returned (.map (some w.heap.size)) /\ MapB wd w' w.heap.size (keptL ss) /\ Below w.heap.size w w' /\ w.heap.size < w'.heap.size := by
 have u91 : TryQ.prog.underlying 133 = some (.map 41 41) := (q_underlying 133).trans Tryz.underlying133
 have hmk := fun W => run_mkMap0 (mt := 133) W
 go_enter TryQ.func62, Tryz.ntmps62
 go_wp2
 go_loopw [9] (fun i wr => ∃ k : Nat, i = .int .i64 k /\ k <= ss.length /\ MapB wd wr w.heap.size (keptL (ss.take k)) /\ Below w.heap.size w wr /\ w.heap.size < wr.heap.size) (fun i _ => ss.length - (Go.RowKit.intOf i).toNat)
 case atStart =>
  exact ⟨0, rfl, Nat.zero_le _, MapB.new wd w, ba, by simp⟩
 case round =>
  obtain ⟨k, rfl, hk, hM, hB, hsz⟩ := hrel
  by_cases hlt : k < ss.length
  ·have hlt' : (k : Int) < (ss.length : Int) := by omega
   obtain ⟨b, o, rfl, hA2⟩ := hA.resolve_left (fun h => by subst h; simp at hlt)
   have hA' := (hA2.below hB) k ss[k] (List.getElem?_eq_getElem hlt)
   have c0 := hA' 0 _ rfl
   have c1 := hA' 1 _ rfl
   have c2 := hA' 2 _ rfl
   have c3 := hA' 3 _ rfl
   have c4 := hA' 4 _ rfl
   have c5 := hA' 5 _ rfl
   have c6 := hA' 6 _ rfl
   have c7 := hA' 7 _ rfl
   rw [Nat.add_zero] at c0
   clear hA'
   have hmk' := hm _ (List.getElem_mem hlt)
   have hq := eqz ss[k].2 hmk'.2
   unfold wd at hq
   have hs' : w.heap.size < (wr.alloc (.cells (slotCells ss[k]).toArray 72)).heap.size := by simp; omega
   have hBa := hB.alloc (Nat.le_of_lt hsz) (.cells (slotCells ss[k]).toArray 72)
   by_cases h0 : ss[k].2 = 0
   ·have hk0 : Shut (ss[k].2 = 0) := h0
    rw [decide_eq_true h0] at hq
    clear h0
    go_wp2
    refine ⟨⟨k + 1, by go_num, by omega, ?_, hBa, hs'⟩, ?_⟩
    ·unfold keptL
     rw [kept_skip ss k hlt hk0.out]
     exact hM.below ba
    ·simp [Go.RowKit.intOf]; omega
   ·have hk0 : Shut (¬ ss[k].2 = 0) := h0
    rw [decide_eq_false h0] at hq
    clear h0
    go_wp2
    refine upon_mapUpdateB wordKeys u91 (k := ss[k].1) (v := wd ss[k].2) (hM.below ba) hmk'.1 (fun p hp => by
     obtain ⟨q, hq, e⟩ := keptL_mem _ p.1 (List.mem_map_of_mem hp)
     rw [<- e]
     exact (hm q (List.mem_of_mem_take hq)).1) (fun o' hM' => ?_)
    have hB' := below_setMap hBa (Nat.le_refl _) o'
    rw [updL_new] at hM'
    rotate_left
    ·intro h
     obtain ⟨q, hq, e⟩ := keptL_mem _ _ h
     obtain ⟨i, hi, rfl⟩ := List.mem_iff_getElem.1 hq
     have hi' : i < k := by simp at hi; omega
     have h1 := List.pairwise_iff_getElem.1 hnd i k (by simp; omega) (by simpa using hlt) hi'
     simp at h1
     simp at e
     exact h1 e
    have e : keptL (ss.take k) ++ [(ss[k].1, wd ss[k].2)] = keptL (ss.take (k + 1)) := by
     unfold keptL
     rw [kept_snoc ss k hlt hk0.out, List.map_append]
     rfl
    rw [e] at hM'
    go_wp2
    go_roundw
    case rel =>
     exact ⟨k + 1, by go_num, by omega, hM', hB', by simpa using hs'⟩
    case measure => simp [Go.RowKit.intOf]; omega
  ·have hk' : k = ss.length := by omega
   subst hk'
   rw [List.take_length] at hM
   go_wp2
   simp [bodyPost, results, Tryz.results62, go_sem]
   exact ⟨hM, hB, hsz⟩
end Go.Mark
namespace Go.Mark
open Go.RowKit Go.Proofs
theorem own_pre {W : World} {base size g n m cap : Nat} {e : TypeId} {xs ys : List Value} (h : W.ownsRow base e size (.slice (some ⟨g, 0, none⟩) (n + m) cap) (n + m) (xs ++ ys)) (hx : xs.length = n * size) : W.ownsRow base e size (.slice (some ⟨g, 0, none⟩) n cap) n xs := by
 rcases h.2 with ⟨h', _⟩ | ⟨g', cap', cur, h', hb, hg, hnc, hcm, hcs, ht⟩
 ·simp at h'
 ·simp only [Value.slice.injEq, Option.some.injEq, Addr.mk.injEq, and_true, true_and] at h'
  obtain ⟨rfl, rfl⟩ := h'
  refine ⟨hx, .inr ⟨g, cap, cur, rfl, hb, hg, by omega, hcm, hcs, ?_⟩⟩
  have e1 : cur.toList.take (n * size) = (cur.toList.take ((n + m) * size)).take (n * size) := by
   rw [List.take_take, Nat.min_eq_left (Nat.mul_le_mul_right _ (by omega))]
  rw [e1, ht, <- hx, List.take_left]
theorem run_append_keep {P : Program} (w : World) (t ty : TypeId) (base : Nat) (e : TypeId) (i : TypeInfo) (z : Value) (size bytes : Nat) (ht : P.underlying t = some (.slice e)) (hi : P.info? e = some i) (hz : i.zero = some z)
  (hsize : i.size = size) (hby : i.bytes = bytes) (hzs : z.cells.size = size) (hsz : 0 < size)
  (v : Value) (n : Nat) (xs : List Value) (hown : w.ownsRow base e size v n xs)
  (ad : Addr) (m c : Nat) (news : List Value) (hl : news.length = m * size) (hnews : ∀ j u, news[j]? = some u -> w.cell? (ad.add j) = some u) (h1 : ∀ u ∈ news, u.oneCell' = true)
  (hm : 0 < m) (h63 : n + m <= maxLen) (hbytes : (n + m) * bytes <= 140737488355328) (hbase : base <= w.heap.size) (H : Nat) (hH : w.heap.size = H) :
  ∃ g cap w', (Builtin.append_ #[t, t] ty #[v, .slice (some ad) m c]).run P w = .ok (.slice (some ⟨g, 0, none⟩) (n + m) cap) w' /\
   w'.ownsRow base e size (.slice (some ⟨g, 0, none⟩) (n + m) cap) (n + m) (xs ++ news) /\ w.grownBy w' v.ownBlock /\ (v.ownBlock = some g \/ g = H) /\ g < w'.heap.size /\ w'.ownsRow base e size v n xs := by
 obtain ⟨g, cap, w', hr, h2, h3, h4, h5⟩ := run_append_lies (P := P) w t ty base e i z size bytes ht hi hz hsize hby hzs hsz v n xs hown ad m c news hl hnews h1 hm h63 hbytes hbase H hH
 refine ⟨g, cap, w', hr, h2, h3, h4, h5, ?_⟩
 rcases hown.2 with ⟨rfl, rfl⟩ | ⟨g0, cap0, cur, rfl, hbg, hg, hnc, hcm, hcs, htake⟩
 ·exact ⟨hown.1, .inl ⟨rfl, rfl⟩⟩
 ·by_cases hroom : n + m <= cap0
  ·obtain ⟨w2, hr2, ho2, _⟩ := run_append_fits (P := P) w base t ty e i size ht hi hsize g0 n cap0 xs hown ad m c news hl hnews h1 hroom
   rw [hr] at hr2
   simp only [Result.ok.injEq, Value.slice.injEq, Option.some.injEq, Addr.mk.injEq, and_true, true_and] at hr2
   obtain ⟨⟨rfl, rfl⟩, rfl⟩ := hr2
   exact own_pre h2 hown.1
  ·have hsmall : n + m <= 9223372036854775807 := by simp only [maxLen] at h63; omega
   have hr2 := run_append_grow (P := P) w t ty e i z ht hi hz ⟨g0, 0, none⟩ n cap0 xs (by rw [hsize]; exact hown.1) (hown.cells (g := g0) rfl) ad m c news (by rw [hsize]; exact hl) hnews (by omega) (by omega) (growslice_fits (by omega) (by rw [hby]; exact hbytes))
   rw [hr] at hr2
   injection hr2 with _ hw
   rw [hw]
   exact own_below (W := w) hown ((Below.refl _ _).drew.alloc (Nat.le_refl _) _)
theorem wp_append_keep {P : Program} (w : World) {o : Oper} {a : Act} {K : Act -> World -> Prop} {Q : Exit -> Act -> World -> Prop} (s x : Operand) (t : TypeId)
  (ho : o.op = .call { callee := .builtin .append, args := #[s, x], argTypes := #[t, t] })
  (base : Nat) (e : TypeId) (i : TypeInfo) (z : Value) (size bytes : Nat) (ht : P.underlying t = some (.slice e)) (hi : P.info? e = some i) (hz : i.zero = some z)
  (hsize : i.size = size) (hby : i.bytes = bytes) (hzs : z.cells.size = size) (hsz : 0 < size)
  (v : Value) (n : Nat) (xs : List Value) (hs : a.eval s = v) (hown : w.ownsRow base e size v n xs)
  (ad : Addr) (m c : Nat) (news : List Value) (hx : a.eval x = .slice (some ad) m c) (hl : news.length = m * size) (hnews : ∀ j u, news[j]? = some u -> w.cell? (ad.add j) = some u) (h1 : ∀ u ∈ news, u.oneCell' = true)
  (hm : 0 < m) (h63 : n + m <= maxLen) (hbytes : (n + m) * bytes <= 140737488355328) (hbase : base <= w.heap.size) (H : Nat) (hH : w.heap.size = H)
  (h : ∀ g cap w', w'.ownsRow base e size (.slice (some ⟨g, 0, none⟩) (n + m) cap) (n + m) (xs ++ news) -> w.grownBy w' v.ownBlock -> (v.ownBlock = some g \/ g = H) -> g < w'.heap.size -> w'.ownsRow base e size v n xs -> K (a.put o.dst (.slice (some ⟨g, 0, none⟩) (n + m) cap)) w') : o.wp P a w K Q := by
 obtain ⟨g, cap, w', hr, h2, h3, h4, h5, h6⟩ := run_append_keep (P := P) w t o.type base e i z size bytes ht hi hz hsize hby hzs hsz v n xs hown ad m c news hl hnews h1 hm h63 hbytes hbase H hH
 unfold Oper.wp execOp
 simp only [ho, resolve, invoke, builtin, Sem.run_bind, Sem.run_pure, Result.andThen_ok, List.map_toArray, List.map_cons, List.map_nil, hs, hx, hr]
 exact h g cap w' h2 h3 h4 h5 h6
theorem wpList_append_keep {P : Program} (w : World) {ops : Array Oper} {rest : List Oper} {o : Oper} {a : Act} {Q : Exit -> Act -> World -> Prop} (hgd : o.guard = none) (s x : Operand) (t : TypeId)
  (ho : o.op = .call { callee := .builtin .append, args := #[s, x], argTypes := #[t, t] })
  (base : Nat) (e : TypeId) (i : TypeInfo) (z : Value) (size bytes : Nat) (ht : P.underlying t = some (.slice e)) (hi : P.info? e = some i) (hz : i.zero = some z)
  (hsize : i.size = size) (hby : i.bytes = bytes) (hzs : z.cells.size = size) (hsz : 0 < size)
  (v : Value) (n : Nat) (xs : List Value) (hs : a.eval s = v) (hown : w.ownsRow base e size v n xs)
  (ad : Addr) (m c : Nat) (news : List Value) (hx : a.eval x = .slice (some ad) m c) (hl : news.length = m * size) (hnews : ∀ j u, news[j]? = some u -> w.cell? (ad.add j) = some u) (h1 : ∀ u ∈ news, u.oneCell' = true)
  (hm : 0 < m) (h63 : n + m <= maxLen) (hbytes : (n + m) * bytes <= 140737488355328) (hbase : base <= w.heap.size) (H : Nat) (hH : w.heap.size = H)
  (h : ∀ g cap w', w'.ownsRow base e size (.slice (some ⟨g, 0, none⟩) (n + m) cap) (n + m) (xs ++ news) -> w.grownBy w' v.ownBlock -> (v.ownBlock = some g \/ g = H) -> g < w'.heap.size -> w'.ownsRow base e size v n xs -> wpList P ops Q rest (a.put o.dst (.slice (some ⟨g, 0, none⟩) (n + m) cap)) w') : wpList P ops Q (o :: rest) a w :=
 wpList_plain hgd fun _ hK => wp_append_keep w s x t ho base e i z size bytes ht hi hz hsize hby hzs hsz v n xs hs hown ad m c news hx hl hnews h1 hm h63 hbytes hbase H hH fun g cap w' h2 h3 h4 h5 h6 => hK _ _ (h g cap w' h2 h3 h4 h5 h6)
structure Kept (X : Nat -> Prop) (w w' : World) : Prop where
 os : w'.os = w.os
 tape : w'.tape = w.tape
 output : w'.output = w.output
 size : w.heap.size <= w'.heap.size
 block : ∀ k, k < w.heap.size -> ¬ X k -> w'.heap[k]? = w.heap[k]?
theorem Kept.refl (X : Nat -> Prop) (w : World) : Kept X w w := ⟨rfl, rfl, rfl, Nat.le_refl _, fun _ _ _ => rfl⟩
theorem kept_grown {w v : World} {r : Option Nat} (h : w.grownBy v r) : Kept (fun g => r = some g) w v := ⟨h.os, h.tape, h.output, h.size, fun k hk hn => h.block k hk (fun e => hn e.symm)⟩
theorem kept_setCell (w : World) (p : Addr) (u : Value) : Kept (fun g => g = p.block) w (w.setCell p u) :=
 ⟨rfl, rfl, rfl, by simp, fun k _ hn => heap_setCell_other w p k u hn⟩
theorem own_same {W W' : World} {base size n : Nat} {e : TypeId} {v : Value} {xs : List Value} (h : W.ownsRow base e size v n xs) (hs : ∀ g, v.ownBlock = some g -> W'.heap[g]? = W.heap[g]?) : W'.ownsRow base e size v n xs := by
 refine ⟨h.1, h.2.imp id ?_⟩
 rintro ⟨g, cap, cur, h1, h2, h3, h4⟩
 subst h1
 exact ⟨g, cap, cur, rfl, h2, (hs g rfl).trans h3, h4⟩
theorem own_type {W : World} {base size n : Nat} {e : TypeId} {v : Value} {xs : List Value} (h : W.ownsRow base e size v n xs) : ∀ g, v.ownBlock = some g -> ∃ cur, W.heap[g]? = some (.cells cur e (0, 0)) := fun g hg => by
 rcases h.2 with ⟨rfl, _⟩ | ⟨g', cap, cur, rfl, _, h3, _⟩
 ·cases hg
 ·cases hg; exact ⟨cur, h3⟩
end Go.Mark
set_option maxRecDepth 100000
set_option maxHeartbeats 1000000
namespace Go.Mark
open Go.RowKit Go.Shelf Go.Proofs
attribute [local go_sem] wd
theorem sub64 (x y b : Int) (hx : 0 <= x) (hy : 0 <= y) (hy' : y < 18446744073709551616) (hb0 : 0 <= b) (hb : b <= 1) (w : World) : (callFunc 132 #[.int .u64 x, .int .u64 y, .int .u64 b]).run TryQ.prog w =
  .ok (.value (.tuple #[.int .u64 ((x - y - b) % 18446744073709551616), .int .u64 (if x < y + b then 1 else 0)])) w := by
 obtain ⟨x, rfl⟩ := Int.eq_ofNat_of_zero_le hx
 obtain ⟨y, rfl⟩ := Int.eq_ofNat_of_zero_le hy
 obtain ⟨b, rfl⟩ := Int.eq_ofNat_of_zero_le hb0
 have e1 : (((x + 18446744073709551616 - y - b) % 18446744073709551616 : Nat) : Int) = ((x : Int) - y - b) % 18446744073709551616 := by omega
 have e2 : ((if x < y + b then 1 else 0 : Nat) : Int) = if (x : Int) < y + b then 1 else 0 := by split <;> split <;> omega
 rw [<- e1, <- e2]
 rw [run_callFunc_extern TryQ.func132 (by kernel_rfl) (by kernel_rfl) (by kernel_rfl) (e := sub64Entry) (by kernel_rfl), run_sub64 x y b (by omega)]
 rfl
theorem subN64 (x y c : Int) (hx : 0 <= x) (hy : 0 <= y) (hy' : y < 18446744073709551616) (hc0 : 0 <= c) (hc : c <= 1) : ∀ w, (callFunc 132 #[.int .u64 x, .int .u64 y, .int .u64 c]).run TryQ.prog w =
  .ok (.value (.tuple #[.int .u64 (sL x y c), .int .u64 (sH x y c)])) w := fun w => sub64 x y c hx hy hy' hc0 hc w
theorem add (a b : Nat) (ha : a < M) (hb : b < M) (w : World) :
  Calls TryQ.prog 106 #[wd a, wd b] w fun e w' => e = .returned (wd ((a + b) % M)) /\ Below w.heap.size w w' := by
 go_enter TryQ.func106, Tryz.ntmps106
 go_wp2_with fail
 refine (sum a b ha hb _).mono ?_
 rintro e w1 ⟨rfl, hb1⟩
 obtain ⟨hc, hf⟩ := bcell hb1
 have hz : w.heap.size + 1 + 1 < w1.heap.size := by have := hb1.size; simp at this; omega
 have hB : Below w.heap.size w w1 := (below3 w _ _ _).trans (hb1.mono (below3 w _ _ _).size)
 go_wp2
 simp [bodyPost, results, Tryz.results106, go_sem, hc, hz]
 exact ((((hB.setCell (by dsimp only; omega) _).setCell (by dsimp only; omega) _).setCell (by dsimp only; omega) _).setCell (by dsimp only; omega) _).alloc (by simp; omega) _
theorem sub_l (a0 a1 a2 a3 b0 b1 b2 b3 : Int) (w : World)
  (p0 : 0 <= a0) (p1 : 0 <= a1) (p2 : 0 <= a2) (p3 : 0 <= a3) (q0 : 0 <= b0) (q1 : 0 <= b1) (q2 : 0 <= b2) (q3 : 0 <= b3)
  (v0 : b0 < 18446744073709551616) (v1 : b1 < 18446744073709551616) (v2 : b2 < 18446744073709551616) (v3 : b3 < 18446744073709551616) :
  Calls TryQ.prog 89 #[.agg #[.int .u64 a0, .int .u64 a1, .int .u64 a2, .int .u64 a3], .agg #[.int .u64 b0, .int .u64 b1, .int .u64 b2, .int .u64 b3]] w fun e w' =>
   e = .returned (.agg #[.int .u64 (sL a0 b0 0), .int .u64 (sL a1 b1 (sH a0 b0 0)), .int .u64 (sL a2 b2 (sH a1 b1 (sH a0 b0 0))), .int .u64 (sL a3 b3 (sH a2 b2 (sH a1 b1 (sH a0 b0 0))))]) /\ Below w.heap.size w w' := by
 have f0 := subN64 a0 b0 0 p0 q0 v0 (Int.le_refl 0) (by decide)
 have f1 := subN64 a1 b1 _ p1 q1 v1 (sH0 a0 b0 0) (sH1 a0 b0 0)
 have f2 := subN64 a2 b2 _ p2 q2 v2 (sH0 a1 b1 (sH a0 b0 0)) (sH1 _ _ _)
 have f3 := subN64 a3 b3 _ p3 q3 v3 (sH0 a2 b2 (sH a1 b1 (sH a0 b0 0))) (sH1 _ _ _)
 clear v0 v1 v2 v3 p0 p1 p2 p3 q0 q1 q2 q3
 go_enter TryQ.func89, Tryz.ntmps89
 go_wp2
 refine wp_loop_rounds 5 ?_
 rw [rounds_succ]
 go_wp2
 go_region
 go_wp2
 rw [rounds_succ]
 go_wp2
 go_region
 go_wp2
 rw [rounds_succ]
 go_wp2
 go_region
 go_wp2
 rw [rounds_succ]
 go_wp2
 go_region
 go_wp2
 rw [rounds_succ]
 go_wp2
 simp [bodyPost, results, Tryz.results89, go_sem]
 exact (below4 _ _ _ _ _).drew.drew.drew.drew
theorem sub (a b : Nat) (ha : a < M) (hb : b < M) (w : World) :
  Calls TryQ.prog 89 #[wd a, wd b] w fun e w' => e = .returned (wd ((a + M - b) % M)) /\ Below w.heap.size w w' := by
 refine (sub_l _ _ _ _ _ _ _ _ w (lim_nn a 0) (lim_nn a 1) (lim_nn a 2) (lim_nn a 3) (lim_nn b 0) (lim_nn b 1) (lim_nn b 2) (lim_nn b 3)
  (lim_lt b 0) (lim_lt b 1) (lim_lt b 2) (lim_lt b 3)).mono fun e w' ⟨he, hb'⟩ => ?_
 obtain ⟨h0, h1, h2, h3⟩ := sub_lim a b ha hb
 unfold wd
 rw [h0, h1, h2, h3]
 exact ⟨he, hb'⟩
theorem cmpI_neg (a b : Nat) : decide (cmpI a b < 0) = decide (a < b) := by
 unfold cmpI
 by_cases h : (a : Int) < b
 ·rw [if_pos h]; have : a < b := by omega
  simp [this]
 ·rw [if_neg h]; have : ¬ a < b := by omega
  split <;> simp [this]
theorem less (a b : Nat) (ha : a < M) (hb : b < M) (w : World) :
  Calls TryQ.prog 117 #[wd a, wd b] w fun e w' => e = .returned (.bool (decide (a < b))) /\ Below w.heap.size w w' := by
 rw [<- cmpI_neg]
 have hcmp := compare a b ha hb
 generalize cmpI (a : Int) (b : Int) = c at hcmp ⊢
 go_enter TryQ.func117, Tryz.ntmps117
 go_wp2_with fail
 refine (hcmp _).mono ?_
 rintro e w1 ⟨rfl, hb1⟩
 clear hcmp
 go_wp2
 go_ret
 exact ⟨rfl, Below.trans (ba.alloc (by simp) _) (hb1.mono (by simp; omega))⟩
abbrev set4 (w : World) (b n : Nat) : World :=
 (((w.setCell ⟨b, 0, none⟩ (.int .u64 (lim n 0))).setCell ⟨b, 1, none⟩ (.int .u64 (lim n 1))).setCell ⟨b, 2, none⟩ (.int .u64 (lim n 2))).setCell ⟨b, 3, none⟩ (.int .u64 (lim n 3))
theorem set4_below {B : Nat} {a w : World} (h : Below B a w) {b : Nat} (hb : B <= b) (n : Nat) : Below B a (set4 w b n) :=
 (((h.setCell (p := ⟨b, 0, none⟩) hb _).setCell (p := ⟨b, 1, none⟩) hb _).setCell (p := ⟨b, 2, none⟩) hb _).setCell (p := ⟨b, 3, none⟩) hb _
theorem Below.over {w W w1 : World} (h : Below w.heap.size w W) (hb : Below W.heap.size W w1) : Below w.heap.size w w1 := h.trans (hb.mono h.size)
theorem nwork2 (a b c : Nat) (ha : a < M) (hb : b < M) (w : World) :
  Calls TryQ.prog 66 #[.int .u8 2, wd a, wd b, wd c] w fun e w' => e = .returned (wd ((a + M - b) % M)) /\ Below w.heap.size w w' := by
 go_enter TryQ.func66, Tryz.ntmps66
 go_wp2_with fail
 refine (sub a b ha hb _).mono ?_
 rintro e w1 ⟨rfl, hb1⟩
 obtain ⟨hc, hf⟩ := bcell hb1
 have hz : w.heap.size + 1 + 1 + 1 < w1.heap.size := by have := hb1.size; simp at this; omega
 have hB : Below w.heap.size w w1 := Below.over (below4 w _ _ _ _) hb1
 clear hb1
 go_wp2
 simp [bodyPost, results, Tryz.results66, go_sem, hc]
 exact set4_below hB (by omega) _
end Go.Mark
set_option maxRecDepth 100000
set_option maxHeartbeats 1000000
namespace Go.Mark
open Go.RowKit Go.Proofs
theorem length_0 (w : World) : Calls TryQ.prog 147 #[.int .u8 0] w fun e w' => e = .returned (.int .i64 1) /\ w' = w := by
 go_enter TryQ.func147, Tryz.ntmps147
 go_wp2
 go_ret
 exact ⟨rfl, rfl⟩
theorem shape_0 (w : World) : Calls TryQ.prog 290 #[.int .u8 0] w fun e w' => e = .returned (.tuple #[.agg #[.int .i64 0, .int .i64 0, .int .i64 0], .bool true]) /\ Below w.heap.size w w' := by
 go_enter TryQ.func290, Tryz.ntmps290
 go_wp2
 simp [bodyPost, results, Tryz.results290, go_sem]
 first | exact (Below.refl _ _).alloc (Nat.le_refl _) _ | exact ba.alloc (by simp) _
theorem length_2 (w : World) : Calls TryQ.prog 147 #[.int .u8 2] w fun e w' => e = .returned (.int .i64 1) /\ w' = w := by
 go_enter TryQ.func147, Tryz.ntmps147
 go_wp2
 go_ret
 exact ⟨rfl, rfl⟩
theorem shape_2 (w : World) : Calls TryQ.prog 290 #[.int .u8 2] w fun e w' => e = .returned (.tuple #[.agg #[.int .i64 2, .int .i64 1, .int .i64 3], .bool true]) /\ Below w.heap.size w w' := by
 go_enter TryQ.func290, Tryz.ntmps290
 go_wp2
 simp [bodyPost, results, Tryz.results290, go_sem]
 first | exact (Below.refl _ _).alloc (Nat.le_refl _) _ | exact ba.alloc (by simp) _
theorem length_47 (w : World) : Calls TryQ.prog 147 #[.int .u8 47] w fun e w' => e = .returned (.int .i64 1) /\ w' = w := by
 go_enter TryQ.func147, Tryz.ntmps147
 go_wp2
 go_ret
 exact ⟨rfl, rfl⟩
theorem shape_47 (w : World) : Calls TryQ.prog 290 #[.int .u8 47] w fun e w' => e = .returned (.tuple #[.agg #[.int .i64 2, .int .i64 0, .int .i64 10], .bool true]) /\ Below w.heap.size w w' := by
 go_enter TryQ.func290, Tryz.ntmps290
 go_wp2
 simp [bodyPost, results, Tryz.results290, go_sem]
 first | exact (Below.refl _ _).alloc (Nat.le_refl _) _ | exact ba.alloc (by simp) _
theorem length_48 (w : World) : Calls TryQ.prog 147 #[.int .u8 48] w fun e w' => e = .returned (.int .i64 1) /\ w' = w := by
 go_enter TryQ.func147, Tryz.ntmps147
 go_wp2
 go_ret
 exact ⟨rfl, rfl⟩
theorem shape_48 (w : World) : Calls TryQ.prog 290 #[.int .u8 48] w fun e w' => e = .returned (.tuple #[.agg #[.int .i64 0, .int .i64 0, .int .i64 1], .bool true]) /\ Below w.heap.size w w' := by
 go_enter TryQ.func290, Tryz.ntmps290
 go_wp2
 simp [bodyPost, results, Tryz.results290, go_sem]
 first | exact (Below.refl _ _).alloc (Nat.le_refl _) _ | exact ba.alloc (by simp) _
theorem length_96 (w : World) : Calls TryQ.prog 147 #[.int .u8 96] w fun e w' => e = .returned (.int .i64 2) /\ w' = w := by
 go_enter TryQ.func147, Tryz.ntmps147
 go_wp2
 go_ret
 exact ⟨rfl, rfl⟩
theorem shape_96 (w : World) : Calls TryQ.prog 290 #[.int .u8 96] w fun e w' => e = .returned (.tuple #[.agg #[.int .i64 0, .int .i64 1, .int .i64 3], .bool true]) /\ Below w.heap.size w w' := by
 go_enter TryQ.func290, Tryz.ntmps290
 go_wp2
 simp [bodyPost, results, Tryz.results290, go_sem]
 first | exact (Below.refl _ _).alloc (Nat.le_refl _) _ | exact ba.alloc (by simp) _
theorem length_128 (w : World) : Calls TryQ.prog 147 #[.int .u8 128] w fun e w' => e = .returned (.int .i64 1) /\ w' = w := by
 go_enter TryQ.func147, Tryz.ntmps147
 go_wp2
 go_ret
 exact ⟨rfl, rfl⟩
theorem shape_128 (w : World) : Calls TryQ.prog 290 #[.int .u8 128] w fun e w' => e = .returned (.tuple #[.agg #[.int .i64 1, .int .i64 2, .int .i64 3], .bool true]) /\ Below w.heap.size w w' := by
 go_enter TryQ.func290, Tryz.ntmps290
 go_wp2
 simp [bodyPost, results, Tryz.results290, go_sem]
 first | exact (Below.refl _ _).alloc (Nat.le_refl _) _ | exact ba.alloc (by simp) _
theorem length_144 (w : World) : Calls TryQ.prog 147 #[.int .u8 144] w fun e w' => e = .returned (.int .i64 1) /\ w' = w := by
 go_enter TryQ.func147, Tryz.ntmps147
 go_wp2
 go_ret
 exact ⟨rfl, rfl⟩
theorem shape_144 (w : World) : Calls TryQ.prog 290 #[.int .u8 144] w fun e w' => e = .returned (.tuple #[.agg #[.int .i64 2, .int .i64 2, .int .i64 3], .bool true]) /\ Below w.heap.size w w' := by
 go_enter TryQ.func290, Tryz.ntmps290
 go_wp2
 simp [bodyPost, results, Tryz.results290, go_sem]
 first | exact (Below.refl _ _).alloc (Nat.le_refl _) _ | exact ba.alloc (by simp) _
end Go.Mark
