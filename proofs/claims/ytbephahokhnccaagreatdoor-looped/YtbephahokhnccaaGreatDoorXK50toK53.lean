import Derived.Test.YtbephahokhnccaaGreatDoorXK46toK49
set_option linter.unusedSectionVars false
set_option maxRecDepth 100000
set_option maxHeartbeats 4000000
namespace Go.Mark
open Go.RowKit Go.Proofs
variable [BaseB]
theorem rn_mono {f : Nat} {Φ Φ' : Value -> World -> Prop} (h : ∀ v w, Φ v w -> Φ' v w) : ∀ (n : Nat) (W : World), Rn f Φ n W -> Rn f Φ' n W
 | 0, _, hR => hR
 | n + 1, W, hR => by
  refine Calls.mono hR ?_
  rintro e w' (⟨t, v, rfl, hΦ⟩ | ⟨rfl, hR'⟩)
  ·exact .inl ⟨t, v, rfl, h _ _ hΦ⟩
  ·exact .inr ⟨rfl, rn_mono h n w' hR'⟩
theorem LG.keep {W W' : World} {l m : Nat} {dm : Dm} {cr : Int} {L : List (Int × Nat × Ac)} {J : List Value} {T : List TypeId} {B : List Nat} (h : LG W l m dm cr L J) (hp : Pres B T W W') (hT : 128 ∉ T /\ 262 ∉ T /\ 136 ∉ T) (hB : ∀ k ∈ B, ∀ o, W.heap[k]? = some o -> ∃ c t f, o = .cells c t f /\ t ≠ 128 /\ t ≠ 262 /\ t ≠ 136) : LG W' l m dm cr L J :=
 h.pres (h.lj.pres hp ⟨hT.1, hT.2.1⟩ (fun k hk o ho => let ⟨c, t, f, h1, h2, h3, _⟩ := hB k hk o ho; ⟨c, t, f, h1, h2, h3⟩)) hp hT.2.2 (fun k hk o ho => let ⟨c, t, f, h1, _, _, h4⟩ := hB k hk o ho; ⟨c, t, f, h1, h4⟩)
theorem LG.keep1 {W W' : World} {l m b : Nat} {dm : Dm} {cr : Int} {L : List (Int × Nat × Ac)} {J : List Value} {T : List TypeId} {c : Array Value} {t : TypeId} {f : Nat × Nat} (h : LG W l m dm cr L J) (hp : Pres [b] T W W') (hb : W.heap[b]? = some (.cells c t f)) (hT : 128 ∉ T /\ 262 ∉ T /\ 136 ∉ T) (ht : t ≠ 128 /\ t ≠ 262 /\ t ≠ 136) : LG W' l m dm cr L J :=
 h.keep hp hT fun k hk o ho => by
  obtain rfl : k = b := by simpa using hk
  rw [hb] at ho
  cases ho
  exact ⟨_, _, _, rfl, ht⟩
structure Ended (W : World) (l m : Nat) (dm : Dm) (cr : Int) (L : List (Int × Nat × Ac)) (bs : List Nat) (mc : Nat) (a d li : Addr) (need g : Int) (v : Value) (w : World) : Prop where
 lg : ∃ L' J', LG w l m dm cr L' J' /\ who L' = who L /\ J'.length < 100
 mc : w.heap[mc]? = some (.cells (machCells l ⟨none, 0, 0⟩ 0 0) 165 (0, 0))
 gl : Glob w a d li
 pr : Pres bs [262, 41] W w
 how : (need <= g /\ v = .iface 174 (.agg #[.int .i64 (g - need), .string ⟨#[]⟩])) \/ (g < need /\ ∃ gb fb, v = .iface 217 (.agg #[.int .i64 gb, .iface 299 (.pointer (some ⟨fb, 0, none⟩))]) /\ ∃ x1 x2 x3 x4 x5, w.heap[fb]? = some (.cells #[x1, x2, .iface 407 (.pointer (some a)), x3, x4, x5] 303 (0, 0)))
theorem call_loop {W : World} {l m mc bb mcap : Nat} {dm : Dm} {cr : Int} {L : List (Int × Nat × Ac)} {J : List Value} {a d li : Addr} {kb : UInt8} (h : LG W l m dm cr L J) (hm : W.heap[mc]? = some (.cells (machCells l ⟨none, 0, 0⟩ 0 0) 165 (0, 0))) (hmb : BaseB.b0 <= mc) (hgl : Glob W a d li) {q p : Int × Nat × Ac} (hq : q ∈ L) (hp : p ∈ L) (hne : q.2.1 ≠ p.2.1) (hcode : p.2.2.code.data = cd kb) (hk : 0 < kb.toNat) (hmk : p.2.2.mark = ⟨some ⟨bb, 0, none⟩, 12, mcap⟩) {cs : Array Value} (hbb : W.heap[bb]? = some (.cells cs 4 (0, 0))) (hcs : cs[2]? = some (.bool true)) (gas : Int) (data : SV) (hg : 0 <= gas) (hg' : gas < 100000000) (hJ : J.length < 90) :
  Calls TryQ.prog 92 #[.pointer (some ⟨mc, 0, none⟩), .agg (callC q.1 p.1 0 gas data)] W fun e w' => ∃ t v, e = .returned (.iface t v) /\ Ended W l m dm cr L [l, q.2.1, p.2.1, mc] mc a d li (26 * (kb.toNat : Int) + 3) gas (.iface t v) w' := by
 refine call92 h hm (by decide) hq hp hne 0 (by decide) (Nat.zero_le _) gas data (by omega) (fun w f hf hfl hmw hL hpr => ?_)
 have hql := h.lo q hq
 have hpl := h.lo p hp
 have hll := h.lj.lo
 have hglw : Glob w a d li := hgl.pres hpr (fun k hk => by simp at hk; rcases hk with rfl | rfl | rfl; exact hll; exact hql.1; exact hpl.1)
 have hbn := blk_lt hbb
 have hbw : w.heap[bb]? = _ := hpr.obj hbb (by show (4 : Nat) ∉ [262]; decide) (by
  obtain ⟨jv, hl, _⟩ := h.lj.ex
  simp only [List.mem_cons, List.not_mem_nil, or_false, not_or]
  exact ⟨ty_ne hbb hl (by decide), ty_ne hbb (h.acc q hq) (by decide), ty_ne hbb (h.acc p hp) (by decide)⟩)
 have hfm : mc ≠ f := ty_ne hmw hf (by decide)
 have hWw := hpr.size
 -- the frame runs
 have hrun := machRun (W := w) (f := f) (mc := mc) (l := l) (lg := ⟨none, 0, 0⟩) (back := 0) (depth := 0) (n := rds (kb.toNat - 1) + 1)
  (Φ := fun v w' => ∃ w0, Pres [mc] [] w w0 /\ w0.heap[mc]? = some (.cells (machCells l ⟨none, 0, 0⟩ 0 (0 + 1)) 165 (0, 0)) /\ Out w0 f ⟨mc, (J.length : Int), ((0 : Nat) : Int), 0, p.2.2.code, p.2.2.mark, p.1, q.1, 0, data, gas, 0, 0⟩ 407 (.pointer (some a)) (left (26 * (kb.toNat : Int) + 3) gas) v w')
  hmw (by decide) (by decide)
  (fun w0 h1 h2 => ?_) (fun v w' ⟨w0, h1, h2, h3⟩ => ?_)
 rotate_left
 ·have hb0 : w0.heap[bb]? = _ := h2.obj hbw (by simp [Other]) (by simpa using ty_ne hbw hmw (by decide))
  have hf0 : w0.heap[f]? = _ := h2.obj hf (by simp [Other]) (by simpa using Ne.symm hfm)
  have hgl0 := hglw.pres h2 (fun k hk => by simp at hk; rw [hk]; exact hmb)
  have hlo := hgl.lo
  have hcx : Cx w0 f bb 407 (.pointer (some a)) := ⟨⟨by omega, Nat.lt_of_lt_of_le (by omega) hgl0.low⟩, by have := hgl.low; omega, hgl0.ng, ⟨_, hb0, by show (4 : Nat) ∉ [41]; decide⟩, by omega, by rw [blk_cell hb0 2]; exact hcs⟩
  have hcr := code_rn (W := w0) (f := f) (mb := bb) (mcap := mcap) (F := ⟨mc, (J.length : Int), ((0 : Nat) : Int), 0, p.2.2.code, p.2.2.mark, p.1, q.1, 0, data, gas, 0, 0⟩) (sv := ⟨none, 0, 0⟩) (g := gas) hcode hk hmk hf0 ⟨⟨rfl, .inl ⟨rfl, rfl⟩⟩, by decide, hgl0.low⟩ hcx hg hg'
  exact rn_mono (fun v w' ho => ⟨w0, h2, h1, ho⟩) _ _ hcr
 ·have hp3 : Pres [f] [41] w0 w' := by
   unfold left at h3
   split at h3
   ·exact h3.2
   ·obtain ⟨_, _, _, _, _, _, h4⟩ := h3
    exact h4
  exact ⟨_, _, hp3.obj h2 (by show (165 : Nat) ∉ [41]; decide) (by simpa using hfm)⟩
 refine hrun.mono ?_
 rintro e w3 ⟨t, v, w2, lg', back', rfl, ⟨w0, h1, h2, h3⟩, h4, h5, h6⟩
 refine ⟨t, v, rfl, ?_⟩
 have hf0 : w0.heap[f]? = _ := h1.obj hf (by simp [Other]) (by simpa using Ne.symm hfm)
 have hL0 := hL.keep1 h1 hmw (by simp) (by decide)
 have hp3 : Pres [f] [41] w0 w2 := by
  unfold left at h3
  split at h3
  ·exact h3.2
  ·obtain ⟨_, _, _, _, _, _, h7⟩ := h3
   exact h7
 have hL2 := hL0.keep1 hp3 hf0 (by decide) (by decide)
 have hL3 := hL2.keep1 h6 h4 (by simp) (by decide)
 have hmc2 : w2.heap[mc]? = _ := hp3.obj h2 (by show (165 : Nat) ∉ [41]; decide) (by simpa using hfm)
 have hmc3 : w3.heap[mc]? = some (.cells (machCells l ⟨none, 0, 0⟩ 0 0) 165 (0, 0)) := by
  rw [hmc2] at h4
  simp only [machCells, Option.some.injEq, Obj.cells.injEq, Array.mk.injEq, List.cons.injEq, Value.slice.injEq, Value.int.injEq, true_and, and_true] at h4
  rw [h5]
  simp only [machCells, <- h4.1.1, <- h4.1.2.1, <- h4.1.2.2, <- h4.2]
 have hB4 : ∀ k ∈ [l, q.2.1, p.2.1, mc], BaseB.b0 <= k := fun k hk => by
  simp at hk
  rcases hk with rfl | rfl | rfl | rfl
  ·exact hll
  ·exact hql.1
  ·exact hpl.1
  ·exact hmb
 have hpW : Pres [l, q.2.1, p.2.1, mc] [262, 41] W w3 := by
  have e1 : Pres [l, q.2.1, p.2.1, mc] [262, 41] W w0 := (hpr.mono (fun k _ hk => by simp at hk; simp; omega) (fun t ht => by simp at ht; simp [ht])).trans (h1.mono (fun k _ hk => by simp at hk; simp [hk]) (fun t ht => by cases ht))
  have e2 := e1.thenx (hp3.mono (B' := [f]) (T' := [262, 41]) (fun k _ hk => hk) (fun t ht => by simp at ht; simp [ht])) (fun k hk => by simp at hk; subst hk; exact .inr hfl)
  exact e2.trans (h6.mono (fun k _ hk => by simp at hk; simp [hk]) (fun t ht => by cases ht))
 have hgl3 := hgl.pres hpW hB4
 have hwho : who (setA (setA L q.2.1 { q.2.2 with bal := (q.2.2.bal + M - 0) % M }) p.2.1 { p.2.2 with bal := (p.2.2.bal + 0) % M }) = who L := (who_setA _ _).trans (who_setA _ _)
 unfold left at h3
 by_cases hlt : 26 * (kb.toNat : Int) + 3 <= gas
 ·rw [if_pos hlt] at h3
  obtain ⟨hv, _⟩ := h3
  simp only [Value.iface.injEq] at hv
  obtain ⟨rfl, rfl⟩ := hv
  refine (conclude_well mc _ w3).mono ?_
  rintro e w' ⟨rfl, rfl⟩
  exact ⟨_, _, rfl, ⟨_, _, hL3, hwho, by simp; omega⟩, hmc3, hgl3, hpW, .inl ⟨hlt, rfl⟩⟩
 ·rw [if_neg hlt] at h3
  obtain ⟨gb, pl, fb, hv, hfb, hfbl, _⟩ := h3
  simp only [Value.iface.injEq] at hv
  obtain ⟨rfl, rfl⟩ := hv
  have hfb3 : w3.heap[fb]? = _ := h6.obj hfb (by simp [Other]) (by simpa using ty_ne hfb h4 (by decide))
  refine (conclude_bad (Φ := fun w' => ∃ L', LG w' l m dm cr L' J /\ who L' = who L /\ w'.heap[mc]? = some (.cells (machCells l ⟨none, 0, 0⟩ 0 0) 165 (0, 0)) /\ Pres [l, q.2.1, p.2.1, mc] [262, 41] W w' /\ w'.heap[fb]? = some (.cells #[.int .i64 p.1, .int .i64 pl, .iface 407 (.pointer (some a)), .int .i64 (J.length : Int), .int .i64 ((0 : Nat) : Int), .int .i64 0] 303 (0, 0))) (fun w4 hb4 => ?_)).mono ?_
  ·have hL4 := hL3.below hb4
   have hmc4 := (hb4.block _ (blk_lt hmc3)).trans hmc3
   have hfb4 := (hb4.block _ (blk_lt hfb3)).trans hfb3
   have hgl4 := hgl3.below hb4
   have hpW4 := hpW.trans (.of_below hb4 _ _)
   refine (undo177 (Φ := fun w' => ∃ L', LG w' l m dm cr L' J /\ who L' = who L /\ Pres [l, q.2.1, p.2.1] [] w4 w' ) (bg := 0) (lg := ⟨none, 0, 0⟩) hmc4 hfb4 hgl4.et (Nat.zero_le _) (Nat.le_refl _) (fun w5 hb5 => ?_)).mono ?_
   ·have hL5 := hL4.below hb5
    rw [List.append_assoc] at hL5
    refine (undo_bals hL5 (by simp; omega) [q.2.1, p.2.1] (fun j hj => ?_)).mono ?_
    ·obtain ⟨a1, ha1⟩ := who_mem hwho hq
     obtain ⟨a2, ha2⟩ := who_mem hwho hp
     simp only [List.cons_append, List.nil_append, List.mem_cons, List.not_mem_nil, or_false] at hj
     rcases hj with rfl | rfl
     ·exact ⟨_, ha1, by simp, _, h.bal q hq, rfl⟩
     ·exact ⟨_, ha2, by simp, _, h.bal p hp, rfl⟩
    ·rintro e w6 ⟨rfl, L', h7, h8, h9⟩
     refine ⟨rfl, ⟨L', h7, h8.trans hwho, (Pres.of_below hb5 _ _).trans h9⟩, [l, q.2.1, p.2.1], h9.mono (fun k _ hk => hk) (fun t ht => by cases ht), ?_, ?_, ?_⟩
     ·obtain ⟨jv, hl, _⟩ := h.lj.ex
      simp only [List.mem_cons, List.not_mem_nil, or_false, not_or]
      exact ⟨ty_ne hm hl (by decide), ty_ne hm (h.acc q hq) (by decide), ty_ne hm (h.acc p hp) (by decide)⟩
     ·have hl0 := h.cell0.1
      have hq0 := blk_lt (h.acc q hq)
      have hp0 := blk_lt (h.acc p hp)
      have := h1.size
      simp only [List.mem_cons, List.not_mem_nil, or_false, not_or]
      omega
     ·have hl0 := h.cell0.1
      have hq0 := blk_lt (h.acc q hq)
      have hp0 := blk_lt (h.acc p hp)
      have := hpW4.size
      simp only [List.mem_cons, List.not_mem_nil, or_false, not_or]
      omega
   ·rintro e w6 ⟨rfl, w7, ⟨L', h7, h8, h9⟩, h10, h11⟩
    have hmc7 : w7.heap[mc]? = _ := h9.obj hmc4 (by simp [Other]) (by
     obtain ⟨jv, hl, _⟩ := h.lj.ex
     simp only [List.mem_cons, List.not_mem_nil, or_false, not_or]
     exact ⟨ty_ne hm hl (by decide), ty_ne hm (h.acc q hq) (by decide), ty_ne hm (h.acc p hp) (by decide)⟩)
    have hfb7 : w7.heap[fb]? = _ := h9.obj hfb4 (by simp [Other]) (by
     have hl0 := h.cell0.1
     have hq0 := blk_lt (h.acc q hq)
     have hp0 := blk_lt (h.acc p hp)
     have := h1.size
     simp only [List.mem_cons, List.not_mem_nil, or_false, not_or]
     omega)
    refine ⟨rfl, L', h7.keep1 h11 hmc7 (by simp) (by decide), h8, h10, ?_, h11.obj hfb7 (by simp [Other]) (by simpa using ty_ne hfb7 hmc7 (by decide))⟩
    exact (hpW4.trans (h9.mono (fun k _ hk => by simp at hk; simp; omega) (fun t ht => by cases ht))).trans (h11.mono (fun k _ hk => by simp at hk; simp [hk]) (fun t ht => by cases ht))
  ·rintro e w' ⟨rfl, L', h7, h8, h9, h10, h11⟩
   exact ⟨_, _, rfl, ⟨L', J, h7, h8, by omega⟩, h9, hgl.pres h10 hB4, h10, .inr ⟨by omega, gb, fb, rfl, _, _, _, _, _, h11⟩⟩
end Go.Mark
set_option maxRecDepth 100000
set_option maxHeartbeats 4000000
namespace Go.Mark
open Go.RowKit Go.Proofs
variable [BaseB]
theorem m_leftW (v : Value) (w : World) : (Go.method 543 174 v "Left").run TryQ.prog w = .ok (366, v) w := by kernel_rfl
theorem m_leftB (v : Value) (w : World) : (Go.method 543 217 v "Left").run TryQ.prog w = .ok (370, v) w := by kernel_rfl
def outR (need g : Nat) : Rs := if need <= g then ⟨true, ⟨#[]⟩, ((g - need : Nat) : Int), 0, (need : Int)⟩ else ⟨false, ⟨#[]⟩, 0, 0, (g : Int)⟩
theorem Pres.drop {B : List Nat} {T : List TypeId} {w w' : World} {b : Nat} (h : Pres (b :: B) T w w') (hb : w.heap.size <= b) : Pres B T w w' := h.mono (fun k hk hm => by
  rcases List.mem_cons.1 hm with e | e
  · omega
  · exact e) (fun t ht => ht)
structure Mid2 (W : World) (l m : Nat) (dm : Dm) (cr : Int) (L : List (Int × Nat × Ac)) (q p : Int × Nat × Ac) (a d li : Addr) (need g : Nat) (mc : Nat) (t : TypeId) (v : Value) (r : Rs) (w : World) : Prop where
  lg : ∃ L' J', LG w l m dm cr L' J' /\ who L' = who L /\ J'.length < 100
  mc : w.heap[mc]? = some (.cells (machCells l ⟨none, 0, 0⟩ 0 0) 165 (0, 0))
  gl : Glob w a d li
  pr : Pres [l, q.2.1, p.2.1] [262, 41] W w
  r : r = outR need g
  how : (need <= g /\ t = 174 /\ v = .agg #[.int .i64 ((g - need : Nat) : Int), .string ⟨#[]⟩]) \/ (g < need /\ t = 217 /\ ∃ gb fb, v = .agg #[.int .i64 gb, .iface 299 (.pointer (some ⟨fb, 0, none⟩))] /\ ∃ x1 x2 x3 x4 x5, w.heap[fb]? = some (.cells #[x1, x2, .iface 407 (.pointer (some a)), x3, x4, x5] 303 (0, 0)))
theorem Mid2.below {W : World} {l m : Nat} {dm : Dm} {cr : Int} {L : List (Int × Nat × Ac)} {q p : Int × Nat × Ac} {a d li : Addr} {need g : Nat} {mc : Nat} {t : TypeId} {v : Value} {r : Rs} {w w' : World} (h : Mid2 W l m dm cr L q p a d li need g mc t v r w) (hb : Below w.heap.size w w') : Mid2 W l m dm cr L q p a d li need g mc t v r w' :=
  ⟨let ⟨L', J', h1, h2⟩ := h.lg; ⟨L', J', h1.below hb, h2⟩, (hb.block _ (blk_lt h.mc)).trans h.mc, h.gl.below hb, h.pr.trans (.of_below hb _ _), h.r, h.how.imp id fun ⟨h1, h2, gb, fb, h3, x1, x2, x3, x4, x5, h4⟩ => ⟨h1, h2, gb, fb, h3, x1, x2, x3, x4, x5, (hb.block _ (blk_lt h4)).trans h4⟩⟩
theorem doLoop33 {W : World} {l m dmb bb mcap : Nat} {cr : Int} {L : List (Int × Nat × Ac)} {a d li : Addr} {kb : UInt8} (h : LG W l m ⟨dmb, []⟩ cr L []) (hgl : Glob W a d li) {q p : Int × Nat × Ac} (hq : q ∈ L) (hp : p ∈ L) (hne : q.2.1 ≠ p.2.1) (hq1 : q.1 = 1) (hp1 : p.1 = 2) (hbal : q.2.2.bal = 1000000) (hno : q.2.2.nonce = 0) (hcode : p.2.2.code.data = cd kb) (hk : 0 < kb.toNat) (hmk : p.2.2.mark = ⟨some ⟨bb, 0, none⟩, 12, mcap⟩) {cs : Array Value} (hbb : W.heap[bb]? = some (.cells cs 4 (0, 0))) (hcs : cs[2]? = some (.bool true)) (g : Nat) (hg0 : 21000 <= g) (hg1 : g <= 100000) :
    Calls TryQ.prog 33 #[.pointer (some ⟨l, 0, none⟩), .agg (ordC 1 2 0 0 (g : Int) ((1 : Nat) : Int) 1)] W fun e w' => ∃ r : Rs, e = .returned (.tuple #[.agg (resC r.good r.k r.s), .nilIface]) /\ r = outR (21003 + 26 * kb.toNat) g /\ Pres [l, q.2.1, p.2.1, dmb] [262, 41] W w' := by
  have hll := h.lj.lo
  have hln := h.cell0.1
  have hqn := blk_lt (h.acc q hq)
  have hpn := blk_lt (h.acc p hp)
  have hql := h.lo q hq
  have hpl := h.lo p hp
  have hdl := h.mlo.2
  have hgM : g * 1 < M := by have : g * 1 <= 100000 := by omega
                             exact Nat.lt_of_le_of_lt this (by decide)
  have hkb : kb.toNat < 256 := kb.toNat_lt
  have hbn := blk_lt hbb
  have hbq : bb ≠ l /\ bb ≠ q.2.1 /\ bb ≠ p.2.1 := by
    obtain ⟨jv, hl, _⟩ := h.lj.ex
    exact ⟨ty_ne hbb hl (by decide), ty_ne hbb (h.acc q hq) (by decide), ty_ne hbb (h.acc p hp) (by decide)⟩
  refine do33 (p := 1) (x := 0)
    (S1 := fun w => (∃ L1 J1 a1, LG w l m ⟨dmb, []⟩ cr L1 J1 /\ who L1 = who L /\ (q.1, q.2.1, a1) ∈ L1 /\ a1.nonce = 0 /\ p ∈ L1 /\ J1.length < 10) /\ Pres [l, q.2.1] [262] W w)
    (S2 := Mid2 W l m ⟨dmb, []⟩ cr L q p a d li (21003 + 26 * kb.toNat) g)
    (S4 := fun r w => r = outR (21003 + 26 * kb.toNat) g /\ (∃ L' J', LG w l m ⟨dmb, []⟩ cr L' J') /\ Pres [l, q.2.1, p.2.1, dmb] [262, 41] W w)
    (S5 := fun r w => r = outR (21003 + 26 * kb.toNat) g /\ Pres [l, q.2.1, p.2.1, dmb] [262, 41] W w)
    (by omega) (by decide) (fun w hb => ?_) (fun w hb => ?_) (fun w w' h1 hb => ⟨let ⟨L1, J1, a1, k1, k2⟩ := h1.1; ⟨L1, J1, a1, k1.below hb, k2⟩, h1.2.trans (.of_below hb _ _)⟩) (fun w mc h1 hmc hm => ?_) (fun mc t v r w w' h1 hb => h1.below hb) (fun w mc t v r h2 => ?_) (fun w mc t v r h2 => ?_) (fun w mc t v r h2 => ?_) (fun w mc t v r h2 => ?_) (fun w r h4 => ?_) (fun r w w' rb c h4 hrb hc hpp => ?_) (fun r w w' rb c h5 hrb hc hpp => ?_)
  · have := refusal48 (h.below hb) hq (by rw [hq1]; decide) 2 0 0 g 1 1 (by decide) (by decide) (by decide) (by decide) (by decide) (by decide) (by decide) hno hg0 (by omega) (by decide) (by decide) (by rw [hbal]; omega)
    rw [hq1] at this
    exact this
  · have := take49 (h.below hb) hq (g * 1) hgM (by simp)
    rw [hq1] at this
    refine this.mono ?_
    rintro e w' ⟨rfl, h1, h2⟩
    exact ⟨rfl, ⟨⟨_, _, _, h1, who_setA _ _, setA_mem hq _, hno, setA_mem_ne hp (Ne.symm hne) _, by simp⟩, Pres.trans (.of_below hb _ _) h2⟩, Kp.pres h2 (fun k hk => by simp at hk; omega) (by decide) (by decide)⟩
  · obtain ⟨⟨L1, J1, a1, hL1, hwho1, hq2, hno1, hp2, hJ1⟩, hP1⟩ := h1
    have hmb : BaseB.b0 <= mc := by have := hgl.low; omega
    have hb52 := begin52 hL1 hm hq2 2 0 0 g 1 1 (by decide) hg0 (by omega) (by show 0 <= a1.nonce; rw [hno1]; decide) (by show a1.nonce < _; rw [hno1]; decide) (by omega)
      (Φ := fun e w' => ∃ t v r, e = .returned (.iface t v) /\ Mid2 W l m ⟨dmb, []⟩ cr L q p a d li (21003 + 26 * kb.toNat) g mc t v r w' /\ Kp W.heap.size w w')
      (fun e w' ⟨t, v, r, he, _⟩ => ⟨t, v, he⟩) (fun w2 data hL2 hm2 hpr2 => ?_)
    · simp only [hq1] at hb52
      exact hb52
    · have hP2 : Pres [l, q.2.1] [262] W w2 := hP1.trans hpr2
      have hgl2 := hgl.pres hP2 (fun k hk => by simp at hk; rcases hk with rfl | rfl; exact hll; exact hql.1)
      have hbb2 : w2.heap[bb]? = _ := hP2.obj hbb (by show (4 : Nat) ∉ [262]; decide) (by simp; omega)
      have hcl := call_loop hL2 hm2 hmb hgl2 (setA_mem hq2 _) (setA_mem_ne hp2 (Ne.symm hne) _) hne hcode hk hmk hbb2 hcs ((g : Int) - 21000) data (by omega) (by omega) (by simp; omega)
      rw [hp1] at hcl
      refine hcl.mono ?_
      rintro e w' ⟨t, v, rfl, hE⟩
      have hprE := hE.pr
      have hP3 : Pres [mc, l, q.2.1, p.2.1] [262, 41] W w' := (hP2.mono (fun k _ hk => by simp at hk; simp; omega) (fun t ht => by simp at ht; simp [ht])).trans (hprE.mono (fun k _ hk => by simp at hk; simp; omega) (fun t ht => ht))
      have hPw : Pres [l, q.2.1, p.2.1, mc] [262, 41] w w' := (hpr2.mono (fun k _ hk => by simp at hk; simp; omega) (fun t ht => by simp at ht; simp [ht])).trans hprE
      refine ⟨t, v, outR (21003 + 26 * kb.toNat) g, rfl, ⟨?_, hE.mc, hE.gl, hP3.drop hmc, rfl, ?_⟩, hPw.size, fun k c t hk ht hc => hPw.obj hc (by rcases ht with rfl | rfl <;> simp [Other]) ?_⟩
      · obtain ⟨L', J', h3, h4, h5⟩ := hE.lg
        exact ⟨L', J', h3, (h4.trans (who_setA _ _)).trans hwho1, h5⟩
      · rcases hE.how with ⟨h3, h4⟩ | ⟨h3, gb, fb, h4, h5⟩
        · simp only [Value.iface.injEq] at h4
          refine .inl ⟨by omega, h4.1, ?_⟩
          rw [h4.2]
          congr 3
          simp only [Value.int.injEq, true_and]
          omega
        · simp only [Value.iface.injEq] at h4
          exact .inr ⟨by omega, h4.1, gb, fb, h4.2, h5⟩
      · have hkm : k ≠ mc := fun e => by
          subst e
          rw [hm] at hc
          simp only [Option.some.injEq, Obj.cells.injEq] at hc
          rcases ht with rfl | rfl <;> exact absurd hc.2.1 (by decide)
        simp only [List.mem_cons, List.not_mem_nil, or_false, not_or]
        omega
  · rcases h2.how with ⟨h3, rfl, rfl⟩ | ⟨h3, rfl, gb, fb, rfl, _⟩
    · refine (tell_well h2.mc _ _).mono ?_
      rintro e w' ⟨rfl, hb⟩
      refine ⟨?_, hb⟩
      rw [h2.r]
      unfold outR
      rw [if_pos h3]
    · refine (tell_bad _ mc w).mono ?_
      rintro e w' ⟨rfl, hb⟩
      refine ⟨?_, hb⟩
      rw [h2.r]
      unfold outR
      rw [if_neg (by omega)]
  · rcases h2.how with ⟨h3, rfl, rfl⟩ | ⟨h3, rfl, gb, fb, rfl, x1, x2, x3, x4, x5, h4⟩
    · refine ⟨366, _, m_leftW _, TryQ.call366, (wellLeft366 _ _ w).mono ?_⟩
      rintro e w' ⟨rfl, hb⟩
      refine ⟨?_, hb⟩
      rw [h2.r]
      unfold outR
      rw [if_pos h3]
    · obtain ⟨ca, ta, oa⟩ := h2.gl.oa
      obtain ⟨cd', td, od⟩ := h2.gl.od
      obtain ⟨cl, tl, ol⟩ := h2.gl.ol
      have hlow := h2.gl.low
      have hlo := h2.gl.lo
      refine ⟨370, _, m_leftB _, TryQ.call370, (badLeft_fault (by rw [blk_cell h4 2]; rfl) (blk_lt h4) h2.gl.dp h2.gl.lt (by omega) oa od ol h2.gl.ad h2.gl.al).mono ?_⟩
      rintro e w' ⟨rfl, hb⟩
      refine ⟨?_, hb⟩
      rw [h2.r]
      unfold outR
      rw [if_neg (by omega)]
  · exact (back55 h2.mc).mono fun e w' ⟨h1, h3⟩ => ⟨by rw [h1, h2.r]; unfold outR; split <;> rfl, h3⟩
  · obtain ⟨L', J', h3, h4, h5⟩ := h2.lg
    obtain ⟨aq, haq⟩ := who_mem h4 hq
    have hmain : ∀ left k : Nat, g = left + k -> r.left = (left : Int) -> r.back = 0 -> r.k = (k : Int) -> Calls TryQ.prog 54 #[.pointer (some ⟨l, 0, none⟩), .agg (ordC 1 2 0 0 (g : Int) ((1 : Nat) : Int) 1), .int .i64 r.left, .int .i64 r.back] w fun e w' => e = .returned (.int .i64 r.k) /\ (r = outR (21003 + 26 * kb.toNat) g /\ (∃ L' J', LG w' l m ⟨dmb, []⟩ cr L' J') /\ Pres [l, q.2.1, p.2.1, dmb] [262, 41] W w') /\ Kp W.heap.size w w' := fun left k hgk e1 e2 e3 => by
      have hs := settle54 h3 haq 2 0 0 g 1 left k hgk (by omega) (by decide) (by omega)
      simp only [hq1] at hs
      rw [e1, e2, e3]
      refine hs.mono ?_
      rintro e w' ⟨L2, J2, rfl, h6, h7⟩
      exact ⟨rfl, ⟨h2.r, ⟨L2, J2, h6⟩, (h2.pr.mono (fun k _ hk => by simp at hk; simp; omega) (fun t ht => ht)).trans (h7.mono (fun k _ hk => by simp at hk; simp; omega) (fun t ht => by simp at ht; simp [ht]))⟩, Kp.pres h7 (fun k hk => by simp at hk; omega) (by decide) (by decide)⟩
    by_cases hle : 21003 + 26 * kb.toNat <= g
    · refine hmain (g - (21003 + 26 * kb.toNat)) (21003 + 26 * kb.toNat) (by omega) ?_ ?_ ?_ <;> (rw [h2.r]; unfold outR; rw [if_pos hle])
    · refine hmain 0 g (by omega) ?_ ?_ ?_ <;> (rw [h2.r]; unfold outR; rw [if_neg hle]) <;> rfl
  · obtain ⟨hr, ⟨L', J', hL⟩, hpr⟩ := h4
    refine (settleAll56 hL).mono ?_
    rintro e w' ⟨rfl, _, h2⟩
    exact ⟨rfl, ⟨hr, hpr.trans (h2.mono (fun k _ hk => by simp at hk; simp; omega) (fun t ht => by cases ht))⟩, Kp.pres h2 (fun k hk => by
      have := h.dmap.lt
      simp at hk
      rcases hk with rfl | rfl
      · exact hln
      · exact this) (by simp) (by simp)⟩
  · obtain ⟨hr, ⟨L', J', hL⟩, hpr⟩ := h4
    exact ⟨hr, ⟨L', J', hL.keep1 hpp hc (by simp) (by decide)⟩, hpr.thenx (hpp.mono (fun k _ hk => hk) (fun t ht => by cases ht)) (fun k hk => by simp at hk; subst hk; exact .inr hrb)⟩
  · exact ⟨h5.1, h5.2.thenx (hpp.mono (fun k _ hk => hk) (fun t ht => by cases ht)) (fun k hk => by simp at hk; subst hk; exact .inr hrb)⟩
end Go.Mark
set_option maxRecDepth 100000
set_option maxHeartbeats 4000000
namespace Go.Mark
open Go.RowKit Go.Proofs
variable [BaseB]
theorem Pres.low {B : List Nat} {T : List TypeId} {w w' : World} (h : Pres B T w w') (hB : ∀ k ∈ B, BaseB.b0 <= k) (hw : BaseB.b0 <= w.heap.size) : Below BaseB.b0 w w' :=
 ⟨h.os, h.tape, h.output, h.size, fun k hk => h.floor hk (Nat.lt_of_lt_of_le hk hw) (fun e => by have := hB k e; omega)⟩
theorem doLoop15 {W : World} {l m dmb bb mcap pw : Nat} {cr : Int} {L : List (Int × Nat × Ac)} {a d li : Addr} {kb : UInt8} (h : LG W l m ⟨dmb, []⟩ cr L []) (hpw : W.cell? ⟨pw, 0, none⟩ = some (.pointer (some ⟨l, 0, none⟩))) (hpl : pw < W.heap.size) (hgl : Glob W a d li) {q p : Int × Nat × Ac} (hq : q ∈ L) (hp : p ∈ L) (hne : q.2.1 ≠ p.2.1) (hq1 : q.1 = 1) (hp1 : p.1 = 2) (hbal : q.2.2.bal = 1000000) (hno : q.2.2.nonce = 0) (hcode : p.2.2.code.data = cd kb) (hk : 0 < kb.toNat) (hmk : p.2.2.mark = ⟨some ⟨bb, 0, none⟩, 12, mcap⟩) {cs : Array Value} (hbb : W.heap[bb]? = some (.cells cs 4 (0, 0))) (hcs : cs[2]? = some (.bool true)) (g : Nat) (hg0 : 21000 <= g) (hg1 : g <= 100000) (hpo : ∃ c t, W.heap[pw]? = some (.cells c t (0, 0)) /\ t ≠ 262 /\ t ≠ 41 /\ t ≠ 128 /\ t ≠ 136) :
  Calls TryQ.prog 15 #[.pointer (some ⟨pw, 0, none⟩), .agg (ordC 1 2 0 0 (g : Int) ((1 : Nat) : Int) 1)] W fun e w' => ∃ r : Rs, e = .returned (.tuple #[.agg (resC r.good r.k r.s), .nilIface]) /\ r = outR (21003 + 26 * kb.toNat) g /\ Pres [l, q.2.1, p.2.1, dmb] [262, 41] W w' := by
 refine do15 (S5 := fun r w => r = outR (21003 + 26 * kb.toNat) g /\ Pres [l, q.2.1, p.2.1, dmb] [262, 41] W w) hpw hpl (fun w hb => ?_) (fun r w w' rb c h5 hrb hc hpp => ⟨h5.1, h5.2.thenx (hpp.mono (fun k _ hk => hk) (fun t ht => by cases ht)) (fun k hk => by simp at hk; subst hk; exact .inr hrb)⟩)
 refine (doLoop33 (h.below hb) (hgl.below hb) hq hp hne hq1 hp1 hbal hno hcode hk hmk ((hb.block _ (blk_lt hbb)).trans hbb) hcs g hg0 hg1).mono ?_
 rintro e w' ⟨r, rfl, h1, h2⟩
 have hln := h.cell0.1
 have hqn := blk_lt (h.acc q hq)
 have hpn := blk_lt (h.acc p hp)
 have hdn := h.dmap.lt
 refine ⟨r, rfl, ⟨h1, (Pres.of_below hb _ _).trans h2⟩, h2.size, Kp.pres h2 (fun k hk => by
  simp at hk
  rcases hk with rfl | rfl | rfl | rfl
  ·exact hln
  ·exact hqn
  ·exact hpn
  ·exact hdn) (by decide) (by decide), ?_⟩
 obtain ⟨c, t, ho, h3, h4, h5, h6⟩ := hpo
 have how := (hb.block _ hpl).trans ho
 obtain ⟨jv, hl, _⟩ := h.lj.ex
 have ho' : w'.heap[pw]? = _ := h2.obj how (by simp [Other]; exact ⟨h3, h4⟩) (by
  simp only [List.mem_cons, List.not_mem_nil, or_false, not_or]
  refine ⟨ty_ne ho hl h5, ty_ne ho (h.acc q hq) h6, ty_ne ho (h.acc p hp) h6, ?_⟩
  obtain ⟨clock, hd⟩ := dml_nil h.dmap
  exact obj_ne ho hd (fun e => by cases e))
 simp only [World.cell?, ho', ho]
end Go.Mark
set_option maxRecDepth 100000
set_option maxHeartbeats 4000000
namespace Go.Mark
open Go.RowKit Go.Proofs
variable [BaseB]
attribute [local go_sem] wd
def jBe (k : Int) : Value := .iface 210 (.agg #[.int .i64 k])
theorem lim0 (i : Nat) : lim 0 i = 0 := by simp [lim]
theorem run_mk0 {mt : TypeId} (w : World) : (Instr.makeMap mt none).run TryQ.prog w = .ok (.map (some w.heap.size)) (w.alloc (.map #[] 0)) := by
 unfold Instr.makeMap
 simp
section
variable {W : World} {l m : Nat} {dm : Dm} {cr : Int} {L : List (Int × Nat × Ac)} {J : List Value}
theorem touch_new (h : LG W l m dm cr L J) (k : Int) (hk : k ∉ L.map (·.1)) (hJ : J.length < 1000000) :
  Calls TryQ.prog 87 #[.pointer (some ⟨l, 0, none⟩), .int .i64 k] W fun e w' => e = .returned (.pointer (some ⟨W.heap.size + 1, 0, none⟩)) /\ LG w' l m dm cr (L ++ [(k, W.heap.size + 1, ⟨0, 0, ⟨#[]⟩, ⟨none, 0, 0⟩, W.heap.size, []⟩)]) (J ++ [jBe k]) /\ Pres [l, m] [262] W w' := by
 have hl := h.nolook hk (W' := W) rfl
 obtain ⟨hlt, hc⟩ := h.cell0
 have hmk := fun W => run_mk0 (mt := 133) W
 have hb1 : Below W.heap.size W ((W.alloc (.map #[] 0)).alloc (.cells (acCells ⟨0, 0, ⟨#[]⟩, ⟨none, 0, 0⟩, W.heap.size, []⟩) 136)) := ba.alloc (by simp) _
 have hL1 := h.below hb1
 have hc1 := hL1.cell0.2
 have hnm : MapB wd ((W.alloc (.map #[] 0)).alloc (.cells (acCells ⟨0, 0, ⟨#[]⟩, ⟨none, 0, 0⟩, W.heap.size, []⟩) 136)) W.heap.size [] := (MapB.new wd W).below ba
 have hna : ((W.alloc (.map #[] 0)).alloc (.cells (acCells ⟨0, 0, ⟨#[]⟩, ⟨none, 0, 0⟩, W.heap.size, []⟩) 136)).heap[W.heap.size + 1]? = some (.cells (acCells ⟨0, 0, ⟨#[]⟩, ⟨none, 0, 0⟩, W.heap.size, []⟩) 136 (0, 0)) := by
  have := blk_new (W.alloc (.map #[] 0)) (.cells (acCells ⟨0, 0, ⟨#[]⟩, ⟨none, 0, 0⟩, W.heap.size, []⟩) 136)
  simpa using this
 have hml := h.map.lt
 have hdl := h.dmap.lt
 have hlo1 : BaseB.b0 <= W.heap.size := Nat.le_trans h.lj.lo (Nat.le_of_lt hlt)
 go_enter TryQ.func87, Tryz.ntmps87
 unfold acCells at hb1 hL1 hc1 hnm hna
 simp only [lim0] at hb1 hL1 hc1 hnm hna
 go_wp2_with fail
 refine upon_mapUpdateB intKeys u124 (k := k) (v := .pointer (some ⟨W.heap.size + 1, 0, none⟩)) hL1.map trivial (fun _ _ => trivial) (fun o' hM' => ?_)
 have hnk : k ∉ (ids L).map (·.1) := fun hm => hk (by rw [show (ids L).map (·.1) = L.map (·.1) by unfold ids; rw [List.map_map]; rfl] at hm; exact hm)
 rw [updL_new _ _ _ hnk] at hM'
 have hp2 := Pres.setMap ((((W.alloc (.map #[] 0)).alloc (.cells (acCells ⟨0, 0, ⟨#[]⟩, ⟨none, 0, 0⟩, W.heap.size, []⟩) 136))) : World) m o'
 unfold acCells at hp2
 simp only [lim0] at hp2
 generalize hw1 : ((W.alloc (.map #[] 0)).alloc (.cells #[.int .u64 0, .int .u64 0, .int .u64 0, .int .u64 0, .int .i64 0, .string ⟨#[]⟩, .slice none 0 0, .map (some W.heap.size)] 136)) = w1 at hb1 hL1 hc1 hnm hna hM' hp2 ⊢
 generalize ({ w1 with heap := w1.heap.setIfInBounds m o' } : World) = w2 at hM' hp2 ⊢
 obtain ⟨jv, hlo', hown⟩ := hL1.lj.ex
 obtain ⟨ems, ecl, hmo⟩ : ∃ es c, w1.heap[m]? = some (.map es c) := let ⟨es, c, h1, _⟩ := hL1.map; ⟨es, c, h1⟩
 have hmap : ∀ {κ : Type} {kf : κ -> Value} {r : Nat} {x : List (κ × Value)}, MapB kf w1 r x -> r ≠ m -> MapB kf w2 r x := fun {κ kf r x} hx hr => by
  obtain ⟨es, c, he⟩ : ∃ es c, w1.heap[r]? = some (.map es c) := let ⟨es, c, h1, _⟩ := hx; ⟨es, c, h1⟩
  exact hx.same ((hp2.obj he trivial (by simpa using hr)).trans he.symm)
 have hrow : ∀ {b : Nat} {c : Array Value} {t : TypeId} {f : Nat × Nat}, w1.heap[b]? = some (.cells c t f) -> w2.heap[b]? = some (.cells c t f) := fun {b c t f} hb => hp2.obj hb (by simp [Other]) (by simpa using obj_ne hb hmo (fun e => by cases e))
 have hL2 : LG w2 l m dm cr (L ++ [(k, W.heap.size + 1, ⟨0, 0, ⟨#[]⟩, ⟨none, 0, 0⟩, W.heap.size, []⟩)]) J := by
  have hold : ∀ q ∈ L, q.2.1 < W.heap.size /\ q.2.2.ms < W.heap.size := fun q hq => ⟨blk_lt (h.acc q hq), (h.slot q hq).lt⟩
  refine ⟨⟨h.lj.lo, jv, hrow hlo', own_same hown fun g hg => ?_⟩, ?_, hmap hL1.dmap (Ne.symm h.nmd), fun q hq => ?_, fun q hq => ?_, ?_, ?_, fun q hq => ?_, fun q hq p hp => ?_, fun q hq => ?_, ?_, fun q hq => ?_, h.nmd, h.ndd, fun q hq => ?_, h.mlo⟩
  ·obtain ⟨cur, hcur⟩ := own_type hown g hg
   exact (hrow hcur).trans hcur.symm
  ·have e : ids (L ++ [(k, W.heap.size + 1, ⟨0, 0, ⟨#[]⟩, ⟨none, 0, 0⟩, W.heap.size, []⟩)]) = ids L ++ [(k, .pointer (some ⟨W.heap.size + 1, 0, none⟩))] := by unfold ids; rw [List.map_append]; rfl
   rw [e]; exact hM'
  ·rcases List.mem_append.1 hq with hq | hq
   ·exact hrow (hL1.acc q hq)
   ·rw [List.mem_singleton.1 hq]
    show w2.heap[W.heap.size + 1]? = some (.cells (acCells ⟨0, 0, ⟨#[]⟩, ⟨none, 0, 0⟩, W.heap.size, []⟩) 136 (0, 0))
    unfold acCells
    simp only [lim0]
    exact hrow hna
  ·rcases List.mem_append.1 hq with hq | hq
   ·exact hmap (hL1.slot q hq) (h.nms q hq).1
   ·rw [List.mem_singleton.1 hq]
    exact hmap hnm (by show W.heap.size ≠ m; omega)
  ·rw [List.map_append, List.nodup_append]
   refine ⟨h.nd, by simp, fun x hx y hy e => ?_⟩
   simp at hy
   rw [e, hy] at hx
   exact hk hx
  ·rw [List.map_append, List.nodup_append]
   refine ⟨h.ndb, by simp, fun x hx y hy e => ?_⟩
   obtain ⟨q, hq, rfl⟩ := List.mem_map.1 hx
   simp at hy
   have := (hold q hq).1
   omega
  ·rcases List.mem_append.1 hq with hq | hq
   ·exact h.bal q hq
   ·rw [List.mem_singleton.1 hq]; show 0 < M; decide
  ·rcases List.mem_append.1 hq with hq | hq
   ·exact h.key q hq p hp
   ·rw [List.mem_singleton.1 hq] at hp; cases hp
  ·rcases List.mem_append.1 hq with hq | hq
   ·exact h.ndk q hq
   ·rw [List.mem_singleton.1 hq]; exact List.nodup_nil
  ·rw [List.map_append, List.nodup_append]
   refine ⟨h.ndm, by simp, fun x hx y hy e => ?_⟩
   obtain ⟨q, hq, rfl⟩ := List.mem_map.1 hx
   simp at hy
   have := (hold q hq).2
   omega
  ·rcases List.mem_append.1 hq with hq | hq
   ·exact h.nms q hq
   ·rw [List.mem_singleton.1 hq]
    show W.heap.size ≠ m /\ W.heap.size ≠ dm.b
    omega
  ·rcases List.mem_append.1 hq with hq | hq
   ·exact h.lo q hq
   ·rw [List.mem_singleton.1 hq]
    show BaseB.b0 <= W.heap.size + 1 /\ BaseB.b0 <= W.heap.size
    omega
 have hnt := note l m cr dm.b J 210 (.agg #[.int .i64 k]) _ hL2.lj hJ
 have hpA : Pres [l, m] [262] W w2 := (Pres.of_below hb1 _ _).trans (hp2.mono (fun k _ hk => by simp at hk; simp [hk]) (fun t ht => by cases ht))
 clear hM' hc1 hc hl hmk
 go_wp2_with fail
 refine hnt.mono ?_
 rintro e w3 ⟨rfl, hlj3, hp3⟩
 clear hnt
 go_wp2
 go_ret
 refine ⟨rfl, hL2.pres hlj3 hp3 (by decide) (fun k hk o ho => ?_), hpA.trans (hp3.mono (fun k _ hk => by simp at hk; simp [hk]) (fun t ht => ht))⟩
 obtain rfl : k = l := by simpa using hk
 rw [hrow hlo'] at ho
 cases ho
 exact ⟨_, _, _, rfl, by decide⟩
end
end Go.Mark
