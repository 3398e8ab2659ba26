import Derived.Test.YtbephahokhnccaaGreatDoorXK35toK41
set_option linter.unusedSectionVars false
set_option maxRecDepth 100000
set_option maxHeartbeats 4000000
namespace Go.Mark
open Go.RowKit Go.Proofs Go.MapKept Go.ChangeMaps
variable [BaseB]
theorem u125 : TryQ.prog.underlying 125 = some (.map 3 179) := (q_underlying 125).trans Tryz.underlying125
theorem run_clearB {κ : Type} {kf : κ -> Value} {mt kt et ty : TypeId} (hm : TryQ.prog.underlying mt = some (.map kt et)) {w : World} {r : Nat} {l : List (κ × Value)} (hM : MapB kf w r l) :
  ∃ o, (Builtin.clear_ #[mt] ty #[.map (some r)]).run TryQ.prog w = .ok (.tuple #[]) { w with heap := w.heap.setIfInBounds r o } /\ MapB kf { w with heap := w.heap.setIfInBounds r o } r [] := by
 obtain ⟨es, clock, hb, hR, hS⟩ := hM
 have hlt : r < w.heap.size := (Array.getElem?_eq_some_iff.1 hb).1
 have hset : ∀ o : Obj, (w.heap.setIfInBounds r o)[r]? = some o := fun o => by simp [hlt]
 have hg : (getObj r).run TryQ.prog w = .ok (.map es clock) w := by simp [getObj, Sem.run, hb]
 have hs : ∀ o : Obj, (setObj r o).run TryQ.prog w = .ok () { w with heap := w.heap.setIfInBounds r o } := fun o => by simp [setObj, Sem.run, hb]
 refine ⟨.map #[] clock, ?_, #[], clock, hset _, rfl, by simp [Stamps]⟩
 unfold Builtin.clear_
 simp [run_underlying hm, hg, hs]
theorem Pres.setMap (w : World) (r : Nat) (o : Obj) : Pres [r] [] w { w with heap := w.heap.setIfInBounds r o } :=
 ⟨rfl, rfl, rfl, by simp, fun k _ hn => .inl (Array.getElem?_setIfInBounds_ne (fun e => hn (by simp [e])))⟩
theorem dml_nil {W : World} {b : Nat} (h : MapB (fun x : Int => Value.int .i64 x) W b (dml [])) : ∃ clock, W.heap[b]? = some (.map #[] clock) := by
 obtain ⟨es, clock, hb, hR, _⟩ := h
 refine ⟨clock, ?_⟩
 have : es.toList = [] := by
  have := congrArg List.length hR
  simpa [dml] using this
 rw [hb]
 congr 2
 exact Array.toList_eq_nil_iff.1 this
theorem settleAll56 {W : World} {l m dmb : Nat} {cr : Int} {L : List (Int × Nat × Ac)} {J : List Value} (h : LG W l m ⟨dmb, []⟩ cr L J) :
  Calls TryQ.prog 56 #[.pointer (some ⟨l, 0, none⟩)] W fun e w' => e = .returned (.tuple #[]) /\ LG w' l m ⟨dmb, []⟩ cr L [] /\ Pres [l, dmb] [] W w' := by
 obtain ⟨clock, hdm⟩ := dml_nil h.dmap
 obtain ⟨jv, ho, hown⟩ := h.lj.ex
 have hbx : Below W.heap.size W (W.alloc (.mapIter (some dmb) clock #[] clock)) := ba
 have hrange := run_range_map (P := TryQ.prog) W 125 3 179 dmb #[] clock u125 hdm
 have hI := IterAt.start hdm (by simp [Stamps])
 have hdl := blk_lt hdm
 have hnx : (Instr.next (.pointer (some ⟨W.heap.size, 0, none⟩)) false 0).run TryQ.prog (W.alloc (.mapIter (some dmb) clock #[] clock)) = .ok (.tuple #[.bool false]) (W.alloc (.mapIter (some dmb) clock #[] clock)) := by
  rcases hI.next (by omega) 0 with ⟨_, h1⟩ | ⟨e, _, he, _⟩
  ·exact h1
  ·simp at he
 have c3 := blk_cell ho 3
 simp only [List.getElem?_toArray, List.getElem?_cons_zero, List.getElem?_cons_succ] at c3
 have ho1 : (W.alloc (.mapIter (some dmb) clock #[] clock)).heap[l]? = _ := blk_alloc ho
 have d3 := blk_cell ho1 3
 simp only [List.getElem?_toArray, List.getElem?_cons_zero, List.getElem?_cons_succ] at d3
 obtain ⟨o, hclr, hM⟩ := run_clearB (ty := 0) u125 (h.dmap.below hbx)
 have hlt := blk_lt ho
 have hne : l ≠ dmb := obj_ne ho hdm (fun e => by cases e)
 have ho2 : ({ (W.alloc (.mapIter (some dmb) clock #[] clock)) with heap := (W.alloc (.mapIter (some dmb) clock #[] clock)).heap.setIfInBounds dmb o } : World).heap[l]? = _ := (Array.getElem?_setIfInBounds_ne (Ne.symm hne)).trans ho1
 have hp2 := (Pres.of_below hbx [dmb] []).trans (Pres.setMap (W.alloc (.mapIter (some dmb) clock #[] clock)) dmb o)
 generalize hw2 : ({ (W.alloc (.mapIter (some dmb) clock #[] clock)) with heap := (W.alloc (.mapIter (some dmb) clock #[] clock)).heap.setIfInBounds dmb o } : World) = w2 at hclr hM ho2 hp2
 have f2 := blk_fz ho2 2
 have c2 := blk_cell ho2 2
 simp only [List.getElem?_toArray, List.getElem?_cons_zero, List.getElem?_cons_succ] at c2
 go_enter TryQ.func56, Tryz.ntmps56
 go_wp2_with fail
 refine wp_loop_rounds 1 ?_
 rw [rounds_succ]
 go_wp2
 simp [bodyPost, results, Tryz.results56, go_sem]
 have hp3 : Pres [l, dmb] [] W (w2.setCell ⟨l, 2, none⟩ (.slice none 0 0)) := (hp2.mono (fun k _ hk => by simp at hk; simp [hk]) (fun t ht => ht)).trans ((Pres.setCell w2 l 2 _).mono (fun k _ hk => by simp at hk; simp [hk]) (fun t ht => ht))
 have hmap : ∀ {κ : Type} {kf : κ -> Value} {r : Nat} {x : List (κ × Value)}, MapB kf W r x -> r ≠ dmb -> MapB kf (w2.setCell ⟨l, 2, none⟩ (.slice none 0 0)) r x := fun {κ kf r x} hx hr => by
  obtain ⟨es, c, he⟩ : ∃ es c, W.heap[r]? = some (.map es c) := let ⟨es, c, h1, _⟩ := hx; ⟨es, c, h1⟩
  refine hx.same ((hp3.obj he trivial ?_).trans he.symm)
  simp only [List.mem_cons, List.not_mem_nil, or_false, not_or]
  exact ⟨obj_ne he ho (fun e => by cases e), hr⟩
 refine ⟨⟨⟨h.lj.lo, ⟨none, 0, 0⟩, blk_set ho2, rfl, .inl ⟨rfl, rfl⟩⟩, hmap h.map h.nmd, hM.same (heap_setCell_other w2 ⟨l, 2, none⟩ dmb _ (Ne.symm hne)), fun q hq => hp3.obj (h.acc q hq) (by simp [Other]) ?_, fun q hq => hmap (h.slot q hq) (h.nms q hq).2, h.nd, h.ndb, h.bal, h.key, h.ndk, h.ndm, h.nms, h.nmd, h.ndd, h.lo, h.mlo⟩, hp3⟩
 simp only [List.mem_cons, List.not_mem_nil, or_false, not_or]
 exact ⟨ty_ne (h.acc q hq) ho (by decide), obj_ne (h.acc q hq) hdm (fun e => by cases e)⟩
end Go.Mark
set_option maxRecDepth 100000
set_option maxHeartbeats 2000000
namespace Go.Mark
open Go.RowKit Go.Proofs
variable [BaseB]
attribute [local go_sem] wd
def fr0 (self caller : Int) (val : Nat) (data : SV) (gas : Int) : Array Value := #[.pointer none, .int .i64 0, .int .i64 0, .int .i64 0, .string ⟨#[]⟩, .slice none 0 0, .int .i64 self, .int .i64 caller, .int .u64 (lim val 0), .int .u64 (lim val 1), .int .u64 (lim val 2), .int .u64 (lim val 3), .slice data.a data.n data.c, .int .i64 gas, .slice none 0 0, .slice none 0 0, .int .i64 0, .int .i64 0]
section
variable {W : World} {l m mc : Nat} {dm : Dm} {cr : Int} {L : List (Int × Nat × Ac)} {J : List Value} {lg : SV} {back depth : Int}
theorem begin134 (h : LG W l m dm cr L J) (hm : W.heap[mc]? = some (.cells (machCells l lg back depth) 165 (0, 0))) (self caller : Int) (val : Nat) (data : SV) (gas : Int) :
  Calls TryQ.prog 134 #[.pointer (some ⟨mc, 0, none⟩), .agg (fr0 self caller val data gas)] W fun e w' => e = .returned (.pointer (some ⟨W.heap.size, 0, none⟩)) /\ w'.heap[W.heap.size]? = some (.cells (frC ⟨mc, (J.length : Int), (lg.n : Int), back, ⟨#[]⟩, ⟨none, 0, 0⟩, self, caller, val, data, gas, 0, 0⟩ ⟨none, 0, 0⟩) 225 (0, 0)) /\ Below W.heap.size W w' := by
 have hb1 : Below W.heap.size W (W.alloc (.cells (fr0 self caller val data gas) 225)) := ba
 have hn1 := blk_new W (.cells (fr0 self caller val data gas) 225)
 have hnow := now176 (h.below hb1) (blk_alloc (p := .cells (fr0 self caller val data gas) 225) hm)
 unfold fr0 at hb1 hn1 hnow ⊢
 go_enter TryQ.func134, Tryz.ntmps134
 go_wp2_with fail
 refine hnow.mono ?_
 rintro e w2 ⟨rfl, hb2⟩
 clear hnow
 have hn2 := (hb2.block _ (blk_lt hn1)).trans hn1
 have hl2 := blk_lt hn2
 have c0 := blk_cell hn2 0
 have c1 := blk_cell hn2 1
 have c2 := blk_cell hn2 2
 have c3 := blk_cell hn2 3
 simp only [List.getElem?_toArray, List.getElem?_cons_zero, List.getElem?_cons_succ] at c0 c1 c2 c3
 have f0 := blk_fz hn2 0
 have f1 := blk_fz hn2 1
 have f2 := blk_fz hn2 2
 have f3 := blk_fz hn2 3
 go_wp2
 go_ret
 have hbA := hb1.trans (hb2.mono hb1.size)
 exact ⟨rfl, blk_set4 _ _ _ _ hn2, (((hbA.setCell (Nat.le_refl _) _).setCell (Nat.le_refl _) _).setCell (Nat.le_refl _) _).setCell (Nat.le_refl _) _⟩
end
end Go.Mark
set_option maxRecDepth 100000
set_option maxHeartbeats 4000000
namespace Go.Mark
open Go.RowKit Go.Proofs
variable [BaseB]
attribute [local go_sem] wd
theorem lj_n {W : World} {jv : SV} {J : List Value} (h : W.ownsRow BaseB.b0 262 1 (.slice jv.a jv.n jv.c) J.length J) : jv.n = J.length := by
 rcases h.2 with ⟨h1, h2⟩ | ⟨g, cap, cur, h1, _⟩
 ·simp only [Value.slice.injEq] at h1; omega
 ·simp only [Value.slice.injEq] at h1; exact h1.2.1
theorem lj_take {W : World} {a : Option Addr} {c : Nat} {J : List Value} (h : W.ownsRow BaseB.b0 262 1 (.slice a J.length c) J.length J) (mo : Nat) (hmo : mo <= J.length) : W.ownsRow BaseB.b0 262 1 (.slice a mo c) (J.take mo).length (J.take mo) := by
 have hl : (J.take mo).length = mo := by simp [hmo]
 rw [hl]
 rcases h.2 with ⟨h1, h2⟩ | ⟨g, cap, cur, h1, _⟩
 ·obtain rfl : J = [] := List.eq_nil_of_length_eq_zero h2
  simp only [Value.slice.injEq] at h1
  obtain ⟨rfl, _, rfl⟩ := h1
  obtain rfl : mo = 0 := by simpa using hmo
  exact ⟨by simp, .inl ⟨rfl, rfl⟩⟩
 ·simp only [Value.slice.injEq] at h1
  obtain ⟨rfl, _, rfl⟩ := h1
  obtain ⟨m, hm⟩ : ∃ m, J.length = mo + m := ⟨J.length - mo, by omega⟩
  have h' := h
  rw [hm] at h'
  have e : J = J.take mo ++ J.drop mo := (List.take_append_drop mo J).symm
  rw [e] at h'
  exact own_pre h' (by omega)
theorem undo223 {W : World} {l m dm : Nat} {cr : Int} {J : List Value} (mo : Nat) (hmo : mo <= J.length) (hJ : J.length < 100000000) (I : Nat -> World -> Prop)
  (hLJ : ∀ n w, I n w -> LJ w l m cr dm J)
  (hst : ∀ n w, mo <= n -> n < J.length -> I (n + 1) w -> ∃ t v fn, J[n]? = some (.iface t v) /\ (∀ w, (Go.method 543 t v "purser/ledger.undo").run TryQ.prog w = .ok (fn, v) w) /\ (∀ args w, (callFunc fn args).run TryQ.prog w = .ok (.enter fn args) w) /\ Calls TryQ.prog fn #[v, .pointer (some ⟨l, 0, none⟩)] w fun e w' => e = .returned (.tuple #[]) /\ I n w')
  (h0 : I J.length W) : Calls TryQ.prog 223 #[.pointer (some ⟨l, 0, none⟩), .int .i64 (mo : Int)] W fun e w' => e = .returned (.tuple #[]) /\ ∃ w1, I mo w1 /\ LJ w' l m cr dm (J.take mo) /\ Pres [l] [] w1 w' := by
 obtain ⟨jv, ho, hown⟩ := (hLJ _ _ h0).ex
 have hn := lj_n hown
 have c2 := blk_cell ho 2
 simp only [List.getElem?_toArray, List.getElem?_cons_zero, List.getElem?_cons_succ] at c2
 rw [hn] at c2
 have hlt := blk_lt ho
 have i1 : IntKind.i64.wrap ((J.length : Int) - 1) = (J.length : Int) - 1 := IntWalk.i64_in _ ⟨by omega, by omega⟩
 have h0s : Shut (I J.length W) := h0
 have hst' : Shut (∀ n w, mo <= n -> n < J.length -> I (n + 1) w -> ∃ t v fn, J[n]? = some (.iface t v) /\ (∀ w, (Go.method 543 t v "purser/ledger.undo").run TryQ.prog w = .ok (fn, v) w) /\ (∀ args w, (callFunc fn args).run TryQ.prog w = .ok (.enter fn args) w) /\ Calls TryQ.prog fn #[v, .pointer (some ⟨l, 0, none⟩)] w fun e w' => e = .returned (.tuple #[]) /\ I n w') := hst
 have hLJ' : Shut (∀ n w, I n w -> LJ w l m cr dm J) := hLJ
 clear hst hLJ h0
 go_enter TryQ.func223, Tryz.ntmps223
 go_wp2_with fail
 clear c2 ho hown hn i1 hlt
 go_loopw [4] (fun i w => ∃ n : Nat, i = .int .i64 ((n : Int) - 1) /\ mo <= n /\ n <= J.length /\ Shut (I n w)) (fun i _ => (Go.RowKit.intOf i + 1).toNat)
 case atStart => exact ⟨J.length, rfl, hmo, Nat.le_refl _, h0s⟩
 case round =>
  obtain ⟨n, rfl, h1, h2, hI⟩ := hrel
  obtain ⟨jv, ho, hown⟩ := (hLJ'.out _ _ hI.out).ex
  have hn := lj_n hown
  have c2 := blk_cell ho 2
  simp only [List.getElem?_toArray, List.getElem?_cons_zero, List.getElem?_cons_succ] at c2
  rw [hn] at c2 hown
  have hlt := blk_lt ho
  by_cases hlt2 : mo < n
  ·obtain ⟨k, rfl⟩ : ∃ k, n = k + 1 := ⟨n - 1, by omega⟩
   have e1 : ((k + 1 : Nat) : Int) - 1 = (k : Int) := by omega
   rw [e1]
   obtain ⟨t, v, fn, hj, hmt, hcf, hcall⟩ := hst'.out k wr (by omega) (by omega) hI.out
   obtain ⟨g, cap, cur, hsl⟩ : ∃ g cap cur, Value.slice jv.a J.length jv.c = .slice (some ⟨g, 0, none⟩) J.length cap /\ wr.heap[g]? = some (.cells cur 262 (0, 0)) := by
    rcases hown.2 with ⟨_, h'⟩ | ⟨g, cap, cur, h', _, hg, _⟩
    ·omega
    ·exact ⟨g, cap, cur, h', hg⟩
   simp only [Value.slice.injEq] at hsl
   obtain ⟨⟨hja, _, rfl⟩, hgc⟩ := hsl
   rw [hja] at c2 hown
   have hcell := (hown.cells (g := g) rfl) k _ hj
   have hadd : (⟨g, 0, none⟩ : Addr).add k = ⟨g, k, none⟩ := by unfold Addr.add; split <;> simp_all
   rw [hadd] at hcell
   clear hadd
   have hklt : (k : Int) < (J.length : Int) := by omega
   have hmk : (mo : Int) <= (k : Int) := by omega
   have i2 : IntKind.i64.wrap ((k : Int) - 1) = (k : Int) - 1 := IntWalk.i64_in _ ⟨by omega, by omega⟩
   have hcs : Shut (Calls TryQ.prog fn #[v, .pointer (some ⟨l, 0, none⟩)] wr fun e w' => e = .returned (.tuple #[]) /\ I k w') := hcall
   clear hcall hI e1 hst' hLJ'
   go_wp2_with fail
   refine hcs.out.mono ?_
   rintro e w2 ⟨rfl, hI2⟩
   have hI2s : Shut (I k w2) := hI2
   clear hI2 hcs hmt hcf
   go_wp2_with fail
   refine ⟨⟨k, rfl, by omega, by omega, hI2s⟩, ?_⟩
   simp [Go.RowKit.intOf]
  ·obtain rfl : n = mo := by omega
   have hge : ¬ ((n : Int) <= (n : Int) - 1) := by omega
   have hown2 := lj_take hown n hmo
   have f2 := blk_fz ho 2
   have hmo2 : (n : Int) <= (J.length : Int) := by omega
   have hcap : J.length <= jv.c := by
    rcases hown.2 with ⟨h', h''⟩ | ⟨g, cap, cur, h', _, _, hnc, _⟩
    ·omega
    ·simp only [Value.slice.injEq] at h'; obtain ⟨_, _, rfl⟩ := h'; exact hnc
   go_wp2_with fail
   simp [bodyPost, results, Tryz.results223, go_sem]
   refine ⟨wr, hI.out, ⟨(hLJ'.out _ _ hI.out).lo, ⟨jv.a, n, jv.c⟩, blk_set ho, own_same hown2 fun k hk => heap_setCell_other wr ⟨l, 2, none⟩ k _ (fun e => ?_)⟩, Pres.setCell _ _ _ _⟩
   obtain ⟨cur, hcur⟩ := own_type hown2 k hk
   exact ty_ne hcur ho (by decide) e
end Go.Mark
set_option maxRecDepth 100000
set_option maxHeartbeats 4000000
namespace Go.Mark
open Go.RowKit Go.Proofs
variable [BaseB]
attribute [local go_sem] wd
theorem as_sum (e : Addr) (W : World) (hg : W.cell? ⟨4, 0, none⟩ = some (.iface 355 (.agg #[.pointer (some ⟨11, 36, none⟩)]))) :
  Calls TryQ.prog 222 #[.iface 299 (.pointer (some e)), .iface 301 (.pointer (some ⟨W.heap.size, 0, none⟩))] (W.alloc (.cells #[.pointer none] 299)) fun ev w' => ev = .returned (.bool true) /\ Below W.heap.size W w' /\ w'.heap[W.heap.size]? = some (.cells #[.pointer (some e)] 299 (0, 0)) := by
 have hlt : 4 < W.heap.size := by
  rcases Nat.lt_or_ge 4 W.heap.size with h | h
  ·exact h
  ·simp [World.cell?, Array.getElem?_eq_none h] at hg
 have hn := blk_new W (.cells #[.pointer none] 299)
 have hb : Below W.heap.size W (W.alloc (.cells #[.pointer none] 299)) := ba
 refine (as222 e ⟨W.heap.size, 0, none⟩ (.pointer none) (W.alloc (.cells #[.pointer none] 299)) ((hb.cell (p := ⟨4, 0, none⟩) hlt).trans hg) (by rw [blk_cell hn 0]; rfl) (blk_fz hn 0)).mono ?_
 rintro ev w' ⟨rfl, rfl⟩
 refine ⟨rfl, ((((hb.alloc (by simp) _).alloc (by simp; omega) _).alloc (by simp; omega) _).alloc (by simp; omega) _).setCell (Nat.le_refl _) _, ?_⟩
 exact blk_set (i := 0) (blk_alloc (blk_alloc (blk_alloc (blk_alloc hn))))
theorem undo177 {W : World} {l mc fb : Nat} {lg : SV} {back depth self place bl bb : Int} {why : Value} {bg : Nat} {Φ : World -> Prop}
  (hm : W.heap[mc]? = some (.cells (machCells l lg back depth) 165 (0, 0)))
  (hf : W.heap[fb]? = some (.cells #[.int .i64 self, .int .i64 place, why, .int .i64 bl, .int .i64 (bg : Int), .int .i64 bb] 303 (0, 0)))
  (hg : W.cell? ⟨4, 0, none⟩ = some (.iface 355 (.agg #[.pointer (some ⟨11, 36, none⟩)])))
  (hbg : bg <= lg.n) (hcap : lg.n <= lg.c)
  (hu : ∀ w, Below W.heap.size W w -> Calls TryQ.prog 223 #[.pointer (some ⟨l, 0, none⟩), .int .i64 bl] w fun e w' => e = .returned (.tuple #[]) /\ Φ w' /\ ∃ B, Pres B [262] w w' /\ mc ∉ B /\ fb ∉ B /\ W.heap.size ∉ B) :
  Calls TryQ.prog 177 #[.pointer (some ⟨mc, 0, none⟩), .iface 299 (.pointer (some ⟨fb, 0, none⟩))] W fun e w' => e = .returned (.tuple #[]) /\ ∃ w1, Φ w1 /\ w'.heap[mc]? = some (.cells (machCells l ⟨lg.a, bg, lg.c⟩ bb depth) 165 (0, 0)) /\ Pres [mc] [] w1 w' := by
 have has := as_sum ⟨fb, 0, none⟩ W hg
 have hmn := blk_lt hm
 have hfn := blk_lt hf
 have hfm : fb ≠ mc := ty_ne hf hm (by decide)
 have hbc : (bg : Int) <= (lg.c : Int) := by omega
 clear hg
 go_enter TryQ.func177, Tryz.ntmps177
 go_wp2_with fail
 refine has.mono ?_
 rintro e w1 ⟨rfl, hb1, ht1⟩
 clear has
 have hm1 := (hb1.block _ hmn).trans hm
 have hf1 := (hb1.block _ hfn).trans hf
 have hbd : Below W.heap.size W w1.drew := hb1.drew
 go_wp2_with fail
 refine wp_region_held_drew (S := fun V => V.heap[mc]? = some (.cells (machCells l lg back depth) 165 (0, 0)) /\ V.heap[W.heap.size]? = some (.cells #[.pointer (some ⟨fb, 0, none⟩)] 299 (0, 0)) /\ V.heap[fb]? = some (.cells #[.int .i64 self, .int .i64 place, why, .int .i64 bl, .int .i64 (bg : Int), .int .i64 bb] 303 (0, 0))) (by kernel_rfl) ⟨hm1, ht1, hf1⟩ (fun hH => ?_)
 refine td (i := 0) (d := some 9) (v := .pointer (some ⟨mc, 0, none⟩)) rfl rfl (fun V hW => ?_) hH ?_
 ·clear hW hH
  go_simp
 refine td (i := 1) (d := some 10) (v := .pointer (some ⟨mc, 0, none⟩)) rfl rfl (fun V hW => ?_) hH ?_
 ·clear hW hH
  go_simp
 refine td (i := 2) (d := some 11) (v := .pointer (some ⟨mc, 0, none⟩)) rfl rfl (fun V hW => ?_) hH ?_
 ·clear hW hH
  go_simp
 refine td (i := 3) (d := some 12) (v := .pointer (some ⟨l, 0, none⟩)) rfl rfl (fun V hW => ?_) hH ?_
 ·have k0 := blk_cell hW.1 0
  simp only [machCells, List.getElem?_toArray, List.getElem?_cons_zero] at k0
  clear hW hH
  go_simp
 refine td (i := 4) (d := some 13) (v := .pointer (some ⟨fb, 0, none⟩)) rfl rfl (fun V hW => ?_) hH ?_
 ·have k0 := blk_cell hW.2.1 0
  simp only [List.getElem?_toArray, List.getElem?_cons_zero] at k0
  clear hW hH
  go_simp
 refine td (i := 5) (d := some 14) (v := .pointer (some ⟨fb, 0, none⟩)) rfl rfl (fun V hW => ?_) hH ?_
 ·clear hW hH
  go_simp
 refine td (i := 6) (d := some 15) (v := .pointer (some ⟨fb, 3, none⟩)) rfl rfl (fun V hW => ?_) hH ?_
 ·clear hW hH
  go_simp
 refine td (i := 7) (d := some 16) (v := .pointer (some ⟨fb, 3, none⟩)) rfl rfl (fun V hW => ?_) hH ?_
 ·clear hW hH
  go_simp
 refine td (i := 8) (d := some 17) (v := .int .i64 bl) rfl rfl (fun V hW => ?_) hH ?_
 ·have k0 := blk_cell hW.2.2 3
  simp only [List.getElem?_toArray, List.getElem?_cons_zero, List.getElem?_cons_succ] at k0
  clear hW hH
  go_simp
 refine r1 (i := 9) rfl (fun K hK => ?_)
 go_simp
 refine (hu _ hbd).mono ?_
 rintro e W2 ⟨rfl, hΦ, B, hpB, hb1, hb2, hb3⟩
 go_wp2_with fail
 have hm2 : W2.heap[mc]? = _ := hpB.obj hH.1 (by show (165 : Nat) ∉ [262]; decide) hb1
 have ht2 : W2.heap[W.heap.size]? = _ := hpB.obj hH.2.1 (by show (299 : Nat) ∉ [262]; decide) hb3
 have hf2 : W2.heap[fb]? = _ := hpB.obj hH.2.2 (by show (303 : Nat) ∉ [262]; decide) hb2
 refine hK.out _ _ ⟨hm2, ht2, hf2⟩ (fun hH => ?_)
 clear hK K
 refine wpAnyH_done (by kernel_rfl) ?_ _
 clear hH
 have m1 := blk_cell hm2 1
 have z1 := blk_fz hm2 1
 simp only [machCells, List.getElem?_toArray, List.getElem?_cons_zero, List.getElem?_cons_succ] at m1
 have hml := blk_lt hm2
 go_wp2_with fail
 refine wp_region_held_drew (S := fun V => V.heap[W.heap.size]? = some (.cells #[.pointer (some ⟨fb, 0, none⟩)] 299 (0, 0)) /\ V.heap[fb]? = some (.cells #[.int .i64 self, .int .i64 place, why, .int .i64 bl, .int .i64 (bg : Int), .int .i64 bb] 303 (0, 0))) (by kernel_rfl) ⟨ht2, hf2⟩ (fun hH => ?_)
 refine td (i := 0) (d := some 19) (v := .pointer (some ⟨mc, 0, none⟩)) rfl rfl (fun V hW => ?_) hH ?_
 ·clear hW hH
  go_simp
 refine td (i := 1) (d := some 20) (v := .pointer (some ⟨mc, 0, none⟩)) rfl rfl (fun V hW => ?_) hH ?_
 ·clear hW hH
  go_simp
 refine td (i := 2) (d := some 21) (v := .pointer (some ⟨mc, 0, none⟩)) rfl rfl (fun V hW => ?_) hH ?_
 ·clear hW hH
  go_simp
 refine td (i := 3) (d := some 22) (v := .pointer (some ⟨mc, 1, none⟩)) rfl rfl (fun V hW => ?_) hH ?_
 ·clear hW hH
  go_simp
 refine td (i := 5) (d := some 24) (v := .pointer (some ⟨fb, 0, none⟩)) rfl rfl (fun V hW => ?_) hH ?_
 ·have k0 := blk_cell hW.1 0
  simp only [List.getElem?_toArray, List.getElem?_cons_zero] at k0
  clear hW hH
  go_simp
 refine td (i := 6) (d := some 25) (v := .pointer (some ⟨fb, 0, none⟩)) rfl rfl (fun V hW => ?_) hH ?_
 ·clear hW hH
  go_simp
 refine td (i := 7) (d := some 26) (v := .pointer (some ⟨fb, 3, none⟩)) rfl rfl (fun V hW => ?_) hH ?_
 ·clear hW hH
  go_simp
 refine td (i := 8) (d := some 27) (v := .pointer (some ⟨fb, 4, none⟩)) rfl rfl (fun V hW => ?_) hH ?_
 ·clear hW hH
  go_simp
 refine td (i := 9) (d := some 28) (v := .int .i64 (bg : Int)) rfl rfl (fun V hW => ?_) hH ?_
 ·have k0 := blk_cell hW.2 4
  simp only [List.getElem?_toArray, List.getElem?_cons_zero, List.getElem?_cons_succ] at k0
  clear hW hH
  go_simp
 refine r1 (i := 4) rfl (fun K hK => ?_)
 go_simp
 refine hK.out _ _ hH (fun hH => ?_)
 clear hK K
 refine r1 (i := 10) rfl (fun K hK => ?_)
 go_simp
 refine hK.out _ _ hH (fun hH => ?_)
 clear hK K
 refine r1 (i := 11) rfl (fun K hK => ?_)
 go_simp
 refine hK.out _ _ hH (fun hH => ?_)
 clear hK K
 refine r1 (i := 12) rfl (fun K hK => ?_)
 go_simp
 refine hK.out _ _ hH (fun hH => ?_)
 clear hK K
 refine r1 (i := 13) rfl (fun K hK => ?_)
 go_simp
 refine hK.out _ _ ⟨blk_set_other hH.1 (by omega), blk_set_other hH.2 hfm⟩ (fun hH => ?_)
 clear hK K
 refine wpAnyH_done (by kernel_rfl) ?_ _
 have hm3 : (W2.setCell ⟨mc, 1, none⟩ (.slice lg.a bg lg.c)).drew.heap[mc]? = some (.cells (machCells l ⟨lg.a, bg, lg.c⟩ back depth) 165 (0, 0)) := blk_set (i := 1) hm2
 have hp3 : Pres [mc] [] W2 (W2.setCell ⟨mc, 1, none⟩ (.slice lg.a bg lg.c)).drew := (Pres.setCell W2 mc 1 _).trans (.of_below (Below.refl _ _).drew _ _)
 generalize (W2.setCell ⟨mc, 1, none⟩ (.slice lg.a bg lg.c)).drew = W3 at hH hm3 hp3 ⊢
 have q2 := blk_cell hm3 2
 have y2 := blk_fz hm3 2
 have t0 := blk_cell hH.1 0
 have b5 := blk_cell hH.2 5
 simp only [machCells, List.getElem?_toArray, List.getElem?_cons_zero, List.getElem?_cons_succ] at q2 t0 b5
 clear m1 z1
 go_wp2
 simp [bodyPost, results, Tryz.results177, go_sem]
 exact ⟨W2, hΦ, blk_set (i := 2) hm3, hp3.trans (Pres.setCell W3 mc 2 _)⟩
theorem ta217 (v : Value) (w : World) : (Instr.typeAssert (.iface 217 v) 116 217 true).run TryQ.prog w = .ok (.tuple #[v, .bool true]) w := by kernel_rfl
theorem ta217_174 (v : Value) (w : World) : (Instr.typeAssert (.iface 174 v) 116 217 true).run TryQ.prog w = .ok (.tuple #[.agg #[.int .i64 0, .nilIface], .bool false]) w := by kernel_rfl
theorem conclude_well (mc : Nat) (v : Value) (W : World) :
  Calls TryQ.prog 137 #[.pointer (some ⟨mc, 0, none⟩), .iface 174 v] W fun e w' => e = .returned (.iface 174 v) /\ w' = W := by
 have h1 := ta217_174
 go_enter TryQ.func137, Tryz.ntmps137
 go_wp2
 go_ret
 exact ⟨rfl, rfl⟩
theorem conclude_bad {W : World} {mc : Nat} {g : Int} {ev : Value} {et : TypeId} {Φ : World -> Prop}
  (hu : ∀ w, Below W.heap.size W w -> Calls TryQ.prog 177 #[.pointer (some ⟨mc, 0, none⟩), .iface et ev] w fun e w' => e = .returned (.tuple #[]) /\ Φ w') :
  Calls TryQ.prog 137 #[.pointer (some ⟨mc, 0, none⟩), .iface 217 (.agg #[.int .i64 g, .iface et ev])] W fun e w' => e = .returned (.iface 217 (.agg #[.int .i64 g, .iface et ev])) /\ Φ w' := by
 have h1 := ta217
 have hb : Below W.heap.size W (W.alloc (.cells #[.int .i64 g, .iface et ev] 217)) := ba
 have hu1 := hu _ hb
 clear hu
 go_enter TryQ.func137, Tryz.ntmps137
 go_wp2_with fail
 refine hu1.mono ?_
 rintro e w1 ⟨rfl, hΦ⟩
 clear hu1
 go_wp2
 go_ret
 exact ⟨rfl, hΦ⟩
end Go.Mark
