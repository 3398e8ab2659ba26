import Derived.Test.YtbephahokhnccaaGreatDoorXN1toH5
set_option linter.unusedSectionVars false
namespace Go.Mark
open Go.Conc Go.Walk Go.Phase Go.RowKit Go.Conc.Lib Go.ConcR.Gen Go.ConcN.Gen Go.Lift Go.Proofs
theorem pre_steps {P : Program} {ops : Array Oper} {Φ : Act -> World -> Prop} {l2 : List Nat} : ∀ (l : List Nat) (a : Act) (w : World), wpOps P ops (fun e a' w' => e = .normal /\ Φ a' w') l a w -> ∀ (b : Frame) (k : List Item) (cs : List Frame), ∃ a' w', Φ a' w' /\ Steps P (lone (b.at a (.inRegion ops (l ++ l2) :: k)) cs w) (lone (b.at a' (.inRegion ops l2 :: k)) cs w')
 | [], a, w, h, _, _, _ => ⟨a, w, h.2, Steps.refl _ _⟩
 | i :: rest, a, w, h, b, k, cs => by
  have ih := pre_steps (P := P) (ops := ops) (Φ := Φ) (l2 := l2) rest
  rw [List.cons_append]
  simp only [wpOps] at h
  cases ho : ops[i]? with
  | none =>
   simp only [ho] at h
   obtain ⟨a', w', hq, hs'⟩ := ih a w h b k cs
   have hs := step_op_skip (P := P) (b := b) (a := a) (k := k) (cs := cs) (w := w) (ops := ops) (i := i) (rest := rest ++ l2) (by simp [ho])
   simp only [ho, Option.bind_none, Act.put] at hs
   exact ⟨a', w', hq, (Steps.one hs).trans hs'⟩
  | some o =>
   simp only [ho] at h
   by_cases hw : Region.wanted o (yielded ops a.tmps) = true
   ·simp only [hw, if_true] at h
    rcases h with h | ⟨_, _, _, hq, _⟩
    case inr => cases hq
    simp only [Oper.wp, Oper.upon] at h
    have hg := stepG_op (P := P) (b := b) (k := k) (cs := cs) (w := w) (rest := rest ++ l2) ho hw
    have hfin : ∀ v, (b.at a (.inRegion ops (i :: (rest ++ l2)) :: k)).finish v = b.at (a.put o.dst v) (.inRegion ops (rest ++ l2) :: k) := by
     intro v; rw [Frame.finish_at, ho]; rfl
    split at h
    ·rename_i v w' hr
     obtain ⟨a', w'', hq, hs'⟩ := ih _ _ h b k cs
     refine ⟨a', w'', hq, (Steps.one (step_lone_go ?_)).trans hs'⟩
     rw [hg, <- hfin]; simp [stepG.apply, hr]
    ·rename_i w' hr
     obtain ⟨a', w'', hq, hs'⟩ := ih _ _ h b k cs
     refine ⟨a', w'', hq, (Steps.one (step_lone_go ?_)).trans hs'⟩
     rw [hg, <- hfin]; simp [stepG.apply, hr]
    ·rename_i d w' hr
     obtain ⟨a', w'', hq, hs'⟩ := ih _ _ h b k cs
     refine ⟨a', w'', hq, (Steps.one (step_lone_go ?_)).trans hs'⟩
     have : ({ b.at a (.inRegion ops (i :: (rest ++ l2)) :: k) with defers := d :: a.defers } : Frame).finish undef =
       b.at ({ a with defers := d :: a.defers }.put o.dst undef) (.inRegion ops (rest ++ l2) :: k) := by
      have := Frame.finish_at b { a with defers := d :: a.defers } ops i (rest ++ l2) k undef
      rw [ho] at this; exact this
     rw [hg]; simp only [stepG.apply, Sem.runT_eq, hr, GStep.bare_after]
     exact congrArg (fun fr => GStep.go { frame := fr, callers := cs, status := .running, dying := none } w') this
    ·rename_i f args w' hr
     obtain ⟨e, w'', fr, hR, hsteps, _, hleave⟩ := h (b.at a (.inRegion ops (i :: (rest ++ l2)) :: k) :: cs)
     have henter : step P (lone (b.at a (.inRegion ops (i :: (rest ++ l2)) :: k)) cs w) =
       .next (lone (Frame.enter P f args .normal) (b.at a (.inRegion ops (i :: (rest ++ l2)) :: k) :: cs) w') :=
      step_lone_go (by rw [hg]; simp [stepG.apply, hr, Frame.at])
     cases e with
     | returned v =>
      obtain ⟨a', w₃, hq, hs'⟩ := ih _ _ hR b k cs
      refine ⟨a', w₃, hq, (Steps.head henter (hsteps.trans (.one ?_))).trans hs'⟩
      rw [<- hfin]; exact step_leave_returned hleave
     | panicked chain => cases hR.1
     | outgrown =>
      obtain ⟨_, _, hq, _⟩ := hR
      cases hq
    ·rename_i row args w' hr
     obtain ⟨v, w'', hR, hsteps⟩ := h (b.at a (.inRegion ops (i :: (rest ++ l2)) :: k)) cs
     have henter : step P (lone (b.at a (.inRegion ops (i :: (rest ++ l2)) :: k)) cs w) =
       .next (lone (Frame.ofRow P row args .normal) (b.at a (.inRegion ops (i :: (rest ++ l2)) :: k) :: cs) w') :=
      step_lone_go (by rw [hg]; simp [stepG.apply, hr, Frame.at])
     obtain ⟨a', w₃, hq, hs'⟩ := ih _ _ hR b k cs
     refine ⟨a', w₃, hq, (Steps.head henter ?_).trans hs'⟩
     rw [<- hfin]; exact hsteps
    ·cases h.1
    ·exact h.elim
   ·simp only [hw, if_false, Bool.false_eq_true] at h
    obtain ⟨a', w', hq, hs'⟩ := ih _ _ h b k cs
    have hs := step_op_skip (P := P) (b := b) (a := a) (k := k) (cs := cs) (w := w) (ops := ops) (i := i) (rest := rest ++ l2)
     (by simp [ho]; simpa using hw)
    simp only [ho, Option.bind_some] at hs
    exact ⟨a', w', hq, (Steps.one hs).trans hs'⟩
theorem lift_pre {D : Nat -> Prop} {ops : Array Oper} {l l2 : List Nat} {b : Frame} {a : Act} {k : List Item} {cw : List Frame} {w : World} {Φ : Act -> World -> Prop} (hb : b.kind = .normal) (ha : a.defers = []) (hc : okOps Tryz.prog ops = true) (hk : ∀ x ∈ k, okItem Tryz.prog x = true)
  (hex : ∃ v, Rel (veil D) w v) (hwp : ∀ v, Rel (veil D) w v -> wpOps TryQ.prog ops (fun e a' v' => e = .normal /\ a'.defers = [] /\ Φ a' v') l a v) :
  Will Tryz.prog (DClean (veil D)) (fun g w' => ∃ a' v', g = G (b.at a' (.inRegion ops l2 :: k)) cw /\ Rel (veil D) w' v' /\ Stays w w' v' /\ a'.defers = [] /\ Φ a' v') (G (b.at a (.inRegion ops (l ++ l2) :: k)) cw) w := by
 have tc : ∀ a' : Act, a'.defers = [] -> ∀ l, TameF Tryz.prog (b.at a' (.inRegion ops l :: k)) := fun a' ha' l => tame_at hb ha' (fun x hx => by rcases List.mem_cons.1 hx with rfl | hx; exact hc; exact hk x hx)
 refine will_mono ?_ (lift (fair D) (cw := cw) (S := fun fr frs v => ∃ a', fr = b.at a' (.inRegion ops l2 :: k) /\ frs = [] /\ a'.defers = [] /\ Φ a' v) (fr := b.at a (.inRegion ops (l ++ l2) :: k)) (frs := []) (w := w)
  (tc a ha _) (fun f hf => by simp at hf) hex (fun v hv => ?_))
 ·rintro g w' ⟨fr, frs, v, rfl, hr, hs, a', rfl, rfl, hd, hΦ⟩
  exact ⟨a', v, rfl, hr, hs, hd, hΦ⟩
 ·obtain ⟨a', v', ⟨hd, hΦ⟩, n, hn⟩ := pre_steps (l2 := l2) l a v (hwp v hv) b k [trap FQ.size]
  rw [TryQ.prog_eq] at hn
  exact ⟨n, b.at a' (.inRegion ops l2 :: k), [], v', hn, tc a' hd _, a', rfl, rfl, hd, hΦ⟩
def chain : List Code -> Code -> Code
 | [], c => c
 | d :: l, c => .seq d (chain l c)
def wpChain (P : Program) (Q : Act -> World -> Prop) : List Code -> Act -> World -> Prop
 | [], a, w => Q a w
 | d :: l, a, w => d.wp P (fun e a' w' => e = .normal /\ wpChain P Q l a' w') a w
theorem chain_steps {P : Program} {Φ : Act -> World -> Prop} (c : Code) : ∀ (l : List Code) (a : Act) (w : World), wpChain P Φ l a w -> ∀ (b : Frame) (k : List Item) (cs : List Frame), ∃ a' w', Φ a' w' /\ Steps P (lone (b.at a (.code (chain l c) :: k)) cs w) (lone (b.at a' (.code c :: k)) cs w')
 | [], a, w, h, _, _, _ => ⟨a, w, h, Steps.refl _ _⟩
 | d :: l, a, w, h, b, k, cs => by
  obtain ⟨e, a1, w1, ⟨rfl, h1⟩, hs⟩ := h b (.code (chain l c) :: k) cs
  obtain ⟨a', w', hΦ, hs2⟩ := chain_steps c l a1 w1 h1 b k cs
  exact ⟨a', w', hΦ, (Steps.head step_seq hs).trans hs2⟩
theorem lift_chain {D : Nat -> Prop} {l : List Code} {c : Code} {b : Frame} {a : Act} {k : List Item} {cw : List Frame} {w : World} {Φ : Act -> World -> Prop} (hb : b.kind = .normal) (ha : a.defers = []) (hc : okCode Tryz.prog (chain l c) = true) (hc' : okCode Tryz.prog c = true) (hk : ∀ x ∈ k, okItem Tryz.prog x = true)
  (hex : ∃ v, Rel (veil D) w v) (hwp : ∀ v, Rel (veil D) w v -> wpChain TryQ.prog (fun a' v' => a'.defers = [] /\ Φ a' v') l a v) :
  Will Tryz.prog (DClean (veil D)) (fun g w' => ∃ a' v', g = G (b.at a' (.code c :: k)) cw /\ Rel (veil D) w' v' /\ Stays w w' v' /\ a'.defers = [] /\ Φ a' v') (G (b.at a (.code (chain l c) :: k)) cw) w := by
 refine will_mono ?_ (lift (fair D) (cw := cw) (S := fun fr frs v => ∃ a', fr = b.at a' (.code c :: k) /\ frs = [] /\ a'.defers = [] /\ Φ a' v) (fr := b.at a (.code (chain l c) :: k)) (frs := []) (w := w)
  (tame_at hb ha (fun x hx => by rcases List.mem_cons.1 hx with rfl | hx; exact hc; exact hk x hx)) (fun f hf => by simp at hf) hex (fun v hv => ?_))
 ·rintro g w' ⟨fr, frs, v, rfl, hr, hs, a', rfl, rfl, hd, hΦ⟩
  exact ⟨a', v, rfl, hr, hs, hd, hΦ⟩
 ·obtain ⟨a', v', ⟨hd, hΦ⟩, n, hn⟩ := chain_steps c l a v (hwp v hv) b k [trap FQ.size]
  rw [TryQ.prog_eq] at hn
  exact ⟨n, b.at a' (.code c :: k), [], v', hn, tame_at hb hd (fun x hx => by rcases List.mem_cons.1 hx with rfl | hx; exact hc'; exact hk x hx), a', rfl, rfl, hd, hΦ⟩
end Go.Mark
set_option maxRecDepth 100000
set_option maxHeartbeats 1000000
namespace Go.Mark
open Go.RowKit Go.Proofs
variable [BaseB]
attribute [local go_sem] wd
section
variable (x0 x1 x2 x3 x4 x5 x6 x7 : Value) (W : World)
theorem fd0 : (Instr.field 136 (.agg #[x0, x1, x2, x3, x4, x5, x6, x7]) 0).run TryQ.prog W = .ok (.agg #[x0, x1, x2, x3]) W := by kernel_rfl
theorem fd1 : (Instr.field 136 (.agg #[x0, x1, x2, x3, x4, x5, x6, x7]) 1).run TryQ.prog W = .ok x4 W := by kernel_rfl
end
section
variable {W : World} {l m : Nat} {dm : Dm} {cr : Int} {L : List (Int × Nat × Ac)} {J : List Value}
theorem nonce83 (h : LG W l m dm cr L J) {q : Int × Nat × Ac} (hq : q ∈ L) :
  Calls TryQ.prog 83 #[.pointer (some ⟨l, 0, none⟩), .int .i64 q.1] W fun e w' => e = .returned (.int .i64 q.2.2.nonce) /\ Below W.heap.size W w' := by
 have hk := look130 h hq
 clear h hq
 go_enter TryQ.func83, Tryz.ntmps83
 go_wp2_with fail
 refine hk.mono ?_
 rintro e w1 ⟨rfl, hb⟩
 clear hk
 have hf := fun x0 x1 x2 x3 x4 x5 x6 x7 => fd1 x0 x1 x2 x3 x4 x5 x6 x7 w1
 unfold acCells
 go_wp2
 go_ret
 exact ⟨rfl, hb⟩
theorem balance86 (h : LG W l m dm cr L J) {q : Int × Nat × Ac} (hq : q ∈ L) :
  Calls TryQ.prog 86 #[.pointer (some ⟨l, 0, none⟩), .int .i64 q.1] W fun e w' => e = .returned (wd q.2.2.bal) /\ Below W.heap.size W w' := by
 have hb0 : Below W.heap.size W (W.alloc (.cells #[.int .u64 0, .int .u64 0, .int .u64 0, .int .u64 0] 41)) := ba
 have hk := look130 (h.below hb0) hq
 have hn := blk_new W (.cells #[.int .u64 0, .int .u64 0, .int .u64 0, .int .u64 0] 41)
 clear h hq
 go_enter TryQ.func86, Tryz.ntmps86
 go_wp2_with fail
 refine hk.mono ?_
 rintro e w1 ⟨rfl, hb⟩
 clear hk
 have hf := fun x0 x1 x2 x3 x4 x5 x6 x7 => fd0 x0 x1 x2 x3 x4 x5 x6 x7 w1
 have hn1 := (hb.block _ (blk_lt hn)).trans hn
 have hsz := blk_lt hn1
 have n0 := blk_cell hn1 0
 have n1 := blk_cell hn1 1
 have n2 := blk_cell hn1 2
 have n3 := blk_cell hn1 3
 have f0 := blk_fz hn1 0
 have f1 := blk_fz hn1 1
 have f2 := blk_fz hn1 2
 have f3 := blk_fz hn1 3
 simp only [List.getElem?_toArray, List.getElem?_cons_zero, List.getElem?_cons_succ] at n0 n1 n2 n3
 unfold acCells
 go_wp2
 simp [bodyPost, results, Tryz.results86, go_sem, n0, n1, n2, n3]
 exact (((((hb0.trans (hb.mono hb0.size)).setCell (by dsimp only; omega) _).setCell (by dsimp only; omega) _).setCell (by dsimp only; omega) _).setCell (by dsimp only; omega) _)
end
end Go.Mark
set_option maxRecDepth 100000
set_option maxHeartbeats 2000000
namespace Go.Mark
open Go.RowKit Go.Proofs
variable [BaseB]
attribute [local go_sem] wd
section
variable {W : World} {l m : Nat} {dm : Dm} {cr : Int} {L : List (Int × Nat × Ac)} {J : List Value}
theorem take49 (h : LG W l m dm cr L J) {q : Int × Nat × Ac} (hq : q ∈ L) (x : Nat) (hx : x < M) (hJ : J.length < 1000000) :
  Calls TryQ.prog 49 #[.pointer (some ⟨l, 0, none⟩), .int .i64 q.1, wd x] W fun e w' => e = .returned (.tuple #[]) /\ LG w' l m dm cr (setA L q.2.1 { q.2.2 with bal := (q.2.2.bal + M - x) % M }) (J ++ [jBal q.2.1 q.2.2.bal]) /\ Pres [l, q.2.1] [262] W w' := by
 have hqb := h.bal q hq
 have hv : (q.2.2.bal + M - x) % M < M := Nat.mod_lt _ (by decide)
 have hbx : Below W.heap.size W (W.alloc (.cells #[.int .u64 (lim x 0), .int .u64 (lim x 1), .int .u64 (lim x 2), .int .u64 (lim x 3)] 41)) := ba
 have hL1 := h.below hbx
 have hn := blk_new W (.cells #[.int .u64 (lim x 0), .int .u64 (lim x 1), .int .u64 (lim x 2), .int .u64 (lim x 3)] 41)
 have hto := touch_old hL1 hq
 go_enter TryQ.func49, Tryz.ntmps49
 go_wp2_with fail
 refine hto.mono ?_
 rintro e w1 ⟨rfl, hw1⟩
 rw [<- hw1] at hL1 hn hbx
 clear hto hw1
 have hq1 := hL1.acc q hq
 have hql := blk_lt hq1
 have c0 := blk_cell hq1 0
 have c1 := blk_cell hq1 1
 have c2 := blk_cell hq1 2
 have c3 := blk_cell hq1 3
 have hl1 := hL1.cell0.1
 have hqn : q.2.1 < W.heap.size := blk_lt (h.acc q hq)
 have hln := h.cell0.1
 simp only [acCells, List.getElem?_toArray, List.getElem?_cons_zero, List.getElem?_cons_succ] at c0 c1 c2 c3
 go_wp2_with fail
 refine wp_region_held_drew (S := fun V => V.heap[W.heap.size]? = some (.cells #[.int .u64 (lim x 0), .int .u64 (lim x 1), .int .u64 (lim x 2), .int .u64 (lim x 3)] 41 (0, 0))) (by kernel_rfl) hn (fun hH => ?_)
 refine td (i := 0) (d := some 10) (v := .pointer (some ⟨l, 0, none⟩)) rfl rfl (fun V hW => ?_) hH ?_
 ·clear hW hH
  go_simp
 refine td (i := 1) (d := some 11) (v := .pointer (some ⟨q.2.1, 0, none⟩)) rfl rfl (fun V hW => ?_) hH ?_
 ·clear hW hH
  go_simp
 refine td (i := 2) (d := some 12) (v := .pointer (some ⟨q.2.1, 0, none⟩)) rfl rfl (fun V hW => ?_) hH ?_
 ·clear hW hH
  go_simp
 refine td (i := 3) (d := some 13) (v := .pointer (some ⟨q.2.1, 0, none⟩)) rfl rfl (fun V hW => ?_) hH ?_
 ·clear hW hH
  go_simp
 refine td (i := 4) (d := some 14) (v := .pointer (some ⟨q.2.1, 0, none⟩)) rfl rfl (fun V hW => ?_) hH ?_
 ·clear hW hH
  go_simp
 refine td (i := 6) (d := some 16) (v := wd x) rfl rfl (fun V hW => ?_) hH ?_
 ·have k0 := blk_cell (hW) 0
  have k1 := blk_cell (hW) 1
  have k2 := blk_cell (hW) 2
  have k3 := blk_cell (hW) 3
  simp only [List.getElem?_toArray, List.getElem?_cons_zero, List.getElem?_cons_succ] at k0 k1 k2 k3
  clear hW hH
  go_simp
 refine r1 (i := 5) rfl (fun K hK => ?_)
 go_simp
 refine hK.out _ _ hH (fun hH => ?_)
 clear hK K
 clear c0 c1 c2 c3
 refine r1 (i := 7) rfl (fun K hK => ?_)
 go_simp
 refine (sub q.2.2.bal x hqb hx _).mono ?_
 rintro e W1 ⟨rfl, hbn⟩
 go_wp2_with fail
 refine hK.out _ _ ((hbn.block _ (blk_lt hH)).trans hH) (fun hH => ?_)
 clear hK K
 have hb1 : Below w1.heap.size w1 W1 := (Below.refl _ _).drew.trans hbn
 have hLW := hL1.below hb1
 refine r1 (i := 8) rfl (fun K hK => ?_)
 go_simp
 refine (setBalance hLW hq ((q.2.2.bal + M - x) % M) hv hJ).mono ?_
 rintro e W2 ⟨rfl, hL2, hp2⟩
 go_wp2_with fail
 refine hK.out _ _ (hp2.obj hH (by show (41 : Nat) ∉ [262]; decide) (by simp; omega)) (fun hH => ?_)
 clear hK K
 refine wpAnyH_done (by kernel_rfl) ?_ _
 show bodyPost TryQ.prog Tryz.f49 _ Exit.normal _ _
 simp [bodyPost, results, Tryz.results49, go_sem]
 exact ⟨hL2, Pres.trans (.of_below (hbx.trans (hb1.mono hbx.size)) _ _) hp2⟩
theorem give94 (h : LG W l m dm cr L J) {q : Int × Nat × Ac} (hq : q ∈ L) (x : Nat) (hx : x < M) (hJ : J.length < 1000000) :
  Calls TryQ.prog 94 #[.pointer (some ⟨l, 0, none⟩), .int .i64 q.1, wd x] W fun e w' => e = .returned (.tuple #[]) /\ LG w' l m dm cr (setA L q.2.1 { q.2.2 with bal := (q.2.2.bal + x) % M }) (J ++ [jBal q.2.1 q.2.2.bal]) /\ Pres [l, q.2.1] [262] W w' := by
 have hqb := h.bal q hq
 have hv : (q.2.2.bal + x) % M < M := Nat.mod_lt _ (by decide)
 have hbx : Below W.heap.size W (W.alloc (.cells #[.int .u64 (lim x 0), .int .u64 (lim x 1), .int .u64 (lim x 2), .int .u64 (lim x 3)] 41)) := ba
 have hL1 := h.below hbx
 have hn := blk_new W (.cells #[.int .u64 (lim x 0), .int .u64 (lim x 1), .int .u64 (lim x 2), .int .u64 (lim x 3)] 41)
 have hto := touch_old hL1 hq
 go_enter TryQ.func94, Tryz.ntmps94
 go_wp2_with fail
 refine hto.mono ?_
 rintro e w1 ⟨rfl, hw1⟩
 rw [<- hw1] at hL1 hn hbx
 clear hto hw1
 have hq1 := hL1.acc q hq
 have hql := blk_lt hq1
 have c0 := blk_cell hq1 0
 have c1 := blk_cell hq1 1
 have c2 := blk_cell hq1 2
 have c3 := blk_cell hq1 3
 have hl1 := hL1.cell0.1
 have hqn : q.2.1 < W.heap.size := blk_lt (h.acc q hq)
 have hln := h.cell0.1
 simp only [acCells, List.getElem?_toArray, List.getElem?_cons_zero, List.getElem?_cons_succ] at c0 c1 c2 c3
 go_wp2_with fail
 refine wp_region_held_drew (S := fun V => V.heap[W.heap.size]? = some (.cells #[.int .u64 (lim x 0), .int .u64 (lim x 1), .int .u64 (lim x 2), .int .u64 (lim x 3)] 41 (0, 0))) (by kernel_rfl) hn (fun hH => ?_)
 refine td (i := 0) (d := some 10) (v := .pointer (some ⟨l, 0, none⟩)) rfl rfl (fun V hW => ?_) hH ?_
 ·clear hW hH
  go_simp
 refine td (i := 1) (d := some 11) (v := .pointer (some ⟨q.2.1, 0, none⟩)) rfl rfl (fun V hW => ?_) hH ?_
 ·clear hW hH
  go_simp
 refine td (i := 2) (d := some 12) (v := .pointer (some ⟨q.2.1, 0, none⟩)) rfl rfl (fun V hW => ?_) hH ?_
 ·clear hW hH
  go_simp
 refine td (i := 3) (d := some 13) (v := .pointer (some ⟨q.2.1, 0, none⟩)) rfl rfl (fun V hW => ?_) hH ?_
 ·clear hW hH
  go_simp
 refine td (i := 4) (d := some 14) (v := .pointer (some ⟨q.2.1, 0, none⟩)) rfl rfl (fun V hW => ?_) hH ?_
 ·clear hW hH
  go_simp
 refine td (i := 6) (d := some 16) (v := wd x) rfl rfl (fun V hW => ?_) hH ?_
 ·have k0 := blk_cell (hW) 0
  have k1 := blk_cell (hW) 1
  have k2 := blk_cell (hW) 2
  have k3 := blk_cell (hW) 3
  simp only [List.getElem?_toArray, List.getElem?_cons_zero, List.getElem?_cons_succ] at k0 k1 k2 k3
  clear hW hH
  go_simp
 refine r1 (i := 5) rfl (fun K hK => ?_)
 go_simp
 refine hK.out _ _ hH (fun hH => ?_)
 clear hK K
 clear c0 c1 c2 c3
 refine r1 (i := 7) rfl (fun K hK => ?_)
 go_simp
 refine (add q.2.2.bal x hqb hx _).mono ?_
 rintro e W1 ⟨rfl, hbn⟩
 go_wp2_with fail
 refine hK.out _ _ ((hbn.block _ (blk_lt hH)).trans hH) (fun hH => ?_)
 clear hK K
 have hb1 : Below w1.heap.size w1 W1 := (Below.refl _ _).drew.trans hbn
 have hLW := hL1.below hb1
 refine r1 (i := 8) rfl (fun K hK => ?_)
 go_simp
 refine (setBalance hLW hq ((q.2.2.bal + x) % M) hv hJ).mono ?_
 rintro e W2 ⟨rfl, hL2, hp2⟩
 go_wp2_with fail
 refine hK.out _ _ (hp2.obj hH (by show (41 : Nat) ∉ [262]; decide) (by simp; omega)) (fun hH => ?_)
 clear hK K
 refine wpAnyH_done (by kernel_rfl) ?_ _
 show bodyPost TryQ.prog Tryz.f94 _ Exit.normal _ _
 simp [bodyPost, results, Tryz.results94, go_sem]
 exact ⟨hL2, Pres.trans (.of_below (hbx.trans (hb1.mono hbx.size)) _ _) hp2⟩
end
end Go.Mark
set_option maxRecDepth 100000
set_option maxHeartbeats 1000000
namespace Go.Mark
open Go.RowKit Go.Proofs
variable [BaseB]
attribute [local go_sem] wd
theorem setA_mem {L : List (Int × Nat × Ac)} {q : Int × Nat × Ac} (hq : q ∈ L) (a : Ac) : (q.1, q.2.1, a) ∈ setA L q.2.1 a := List.mem_map.2 ⟨q, hq, by simp⟩
theorem setA_mem_ne {L : List (Int × Nat × Ac)} {q : Int × Nat × Ac} (hq : q ∈ L) {b : Nat} (hne : q.2.1 ≠ b) (a : Ac) : q ∈ setA L b a := List.mem_map.2 ⟨q, hq, by rw [if_neg hne]⟩
section
variable {W : World} {l m : Nat} {dm : Dm} {cr : Int} {L : List (Int × Nat × Ac)} {J : List Value}
theorem now221 (h : LG W l m dm cr L J) :
  Calls TryQ.prog 221 #[.pointer (some ⟨l, 0, none⟩)] W fun e w' => e = .returned (.int .i64 (J.length : Int)) /\ w' = W := by
 obtain ⟨jv, ho, hown⟩ := h.lj.ex
 have hn : jv.n = J.length := by
  rcases hown.2 with ⟨h1, h2⟩ | ⟨g, cap, cur, h1, _⟩
  ·simp only [Value.slice.injEq] at h1; omega
  ·simp only [Value.slice.injEq] at h1; exact h1.2.1
 have c2 := blk_cell ho 2
 simp only [List.getElem?_toArray, List.getElem?_cons_zero, List.getElem?_cons_succ] at c2
 rw [hn] at c2
 have hlt := blk_lt ho
 clear h ho hown hn
 go_enter TryQ.func221, Tryz.ntmps221
 go_wp2
 go_ret
 exact ⟨rfl, rfl⟩
theorem raise91 (h : LG W l m dm cr L J) {q : Int × Nat × Ac} (hq : q ∈ L) (hn : 0 <= q.2.2.nonce) (hn' : q.2.2.nonce < 4611686018427387905) (hJ : J.length < 1000000) :
  Calls TryQ.prog 91 #[.pointer (some ⟨l, 0, none⟩), .int .i64 q.1] W fun e w' => e = .returned (.tuple #[]) /\ LG w' l m dm cr (setA L q.2.1 { q.2.2 with nonce := q.2.2.nonce + 1 }) (J ++ [jNonce q.2.1 q.2.2.nonce]) /\ Pres [l, q.2.1] [262] W w' := by
 have hto := touch_old h hq
 have hq1 := h.acc q hq
 have hql := blk_lt hq1
 have hne : q.2.1 ≠ l := by obtain ⟨jv, hl, _⟩ := h.lj.ex; exact ty_ne hq1 hl (by decide)
 have c4 := blk_cell hq1 4
 simp only [acCells, List.getElem?_toArray, List.getElem?_cons_zero, List.getElem?_cons_succ] at c4
 have hnt := note l m cr dm.b J 229 (.agg #[.pointer (some ⟨q.2.1, 0, none⟩), .int .i64 q.2.2.nonce]) _ h.lj hJ
 have hbal := h.bal q hq
 have hwr : IntKind.i64.wrap (q.2.2.nonce + 1) = q.2.2.nonce + 1 := IntWalk.i64_in _ ⟨by omega, by omega⟩
 go_enter TryQ.func91, Tryz.ntmps91
 go_wp2_with fail
 refine hto.mono ?_
 rintro e w1 ⟨rfl, hw1⟩
 subst hw1
 clear hto
 go_wp2_with fail
 refine hnt.mono ?_
 rintro e w2 ⟨rfl, hlj2, hp2⟩
 clear hnt c4
 have hq2 : w2.heap[q.2.1]? = _ := hp2.obj hq1 (by show (136 : Nat) ∉ [262]; decide) (by simpa using hne)
 have c4 := blk_cell hq2 4
 have f4 := blk_fz hq2 4
 simp only [acCells, List.getElem?_toArray, List.getElem?_cons_zero, List.getElem?_cons_succ] at c4
 go_wp2
 simp [bodyPost, results, Tryz.results91, go_sem]
 have hp3 := Pres.setCell w2 q.2.1 4 (.int .i64 (q.2.2.nonce + 1))
 have hb3 := blk_set (i := 4) (v := .int .i64 (q.2.2.nonce + 1)) hq2
 have hlj3 := hlj2.pres hp3 (by decide) (fun k hk o ho => by
  obtain rfl : k = q.2.1 := by simpa using hk
  rw [hq2] at ho
  cases ho
  exact ⟨_, _, _, rfl, by decide, by decide⟩)
 have hpA : Pres [l, q.2.1] [262] w1 _ := Pres.trans (hp2.mono (fun k _ hk => by simp at hk; simp [hk]) (fun t ht => ht)) (hp3.mono (fun k _ hk => by simp at hk; simp [hk]) (fun t ht => by cases ht))
 exact ⟨h.set hq (a := { q.2.2 with nonce := q.2.2.nonce + 1 }) hlj3 hb3 hpA (by decide) ⟨rfl, rfl⟩ hbal, hpA⟩
end
end Go.Mark
set_option maxRecDepth 100000
set_option maxHeartbeats 2000000
namespace Go.Mark
open Go.RowKit Go.Proofs
variable [BaseB]
attribute [local go_sem] wd
section
variable {W : World} {l m : Nat} {dm : Dm} {cr : Int} {L : List (Int × Nat × Ac)} {J : List Value}
theorem code140 (h : LG W l m dm cr L J) {q : Int × Nat × Ac} (hq : q ∈ L) :
  Calls TryQ.prog 140 #[.pointer (some ⟨l, 0, none⟩), .int .i64 q.1] W fun e w' => e = .returned (.tuple #[.string q.2.2.code, .slice q.2.2.mark.a q.2.2.mark.n q.2.2.mark.c]) /\ Below W.heap.size W w' := by
 have hk := look130 h hq
 clear h hq
 go_enter TryQ.func140, Tryz.ntmps140
 go_wp2_with fail
 refine hk.mono ?_
 rintro e w1 ⟨rfl, hb⟩
 clear hk
 have hn := blk_new w1 (.cells (acCells q.2.2) 136)
 have hb2 : Below w1.heap.size w1 (w1.alloc (.cells (acCells q.2.2) 136)) := ba
 unfold acCells
 go_wp2_with fail
 change Code.wp _ _ _ _ (w1.alloc (.cells (acCells q.2.2) 136))
 refine wp_region_held_drew (S := fun V => V.heap[w1.heap.size]? = some (.cells (acCells q.2.2) 136 (0, 0))) (by kernel_rfl) hn (fun hH => ?_)
 refine td (i := 0) (d := some 10) (v := .pointer (some ⟨w1.heap.size, 5, none⟩)) rfl rfl (fun V hW => ?_) hH ?_
 ·clear hW hH
  go_simp
 refine td (i := 2) (d := some 12) (v := .pointer (some ⟨w1.heap.size, 6, none⟩)) rfl rfl (fun V hW => ?_) hH ?_
 ·clear hW hH
  go_simp
 refine td (i := 1) (d := some 11) (v := .string q.2.2.code) rfl rfl (fun V hW => ?_) hH ?_
 ·have k0 := blk_cell hW 5
  simp only [acCells, List.getElem?_toArray, List.getElem?_cons_zero, List.getElem?_cons_succ] at k0
  clear hW hH
  go_simp
 refine td (i := 3) (d := some 13) (v := .slice q.2.2.mark.a q.2.2.mark.n q.2.2.mark.c) rfl rfl (fun V hW => ?_) hH ?_
 ·have k0 := blk_cell hW 6
  simp only [acCells, List.getElem?_toArray, List.getElem?_cons_zero, List.getElem?_cons_succ] at k0
  clear hW hH
  go_simp
 refine td (i := 4) (d := some 4) (v := .string q.2.2.code) rfl rfl (fun V hW => ?_) hH ?_
 ·clear hW hH
  go_simp
 refine td (i := 5) (d := some 5) (v := .slice q.2.2.mark.a q.2.2.mark.n q.2.2.mark.c) rfl rfl (fun V hW => ?_) hH ?_
 ·clear hW hH
  go_simp
 refine wpAnyH_done (by kernel_rfl) ?_ _
 go_wp2
 simp [bodyPost, results, Tryz.results140, go_sem]
 exact hb.trans (hb2.drew.mono hb.size)
theorem send136 (h : LG W l m dm cr L J) {q p : Int × Nat × Ac} (hq : q ∈ L) (hp : p ∈ L) (hne : q.2.1 ≠ p.2.1) (x : Nat) (hx : x < M) (hJ : J.length + 1 < 1000000) :
  Calls TryQ.prog 136 #[.pointer (some ⟨l, 0, none⟩), .int .i64 q.1, .int .i64 p.1, wd x] W fun e w' => e = .returned (.tuple #[]) /\ LG w' l m dm cr (setA (setA L q.2.1 { q.2.2 with bal := (q.2.2.bal + M - x) % M }) p.2.1 { p.2.2 with bal := (p.2.2.bal + x) % M }) (J ++ [jBal q.2.1 q.2.2.bal] ++ [jBal p.2.1 p.2.2.bal]) /\ Pres [l, q.2.1, p.2.1] [262] W w' := by
 have hbx : Below W.heap.size W (W.alloc (.cells #[.int .u64 (lim x 0), .int .u64 (lim x 1), .int .u64 (lim x 2), .int .u64 (lim x 3)] 41)) := ba
 have hn := blk_new W (.cells #[.int .u64 (lim x 0), .int .u64 (lim x 1), .int .u64 (lim x 2), .int .u64 (lim x 3)] 41)
 have hL1 := h.below hbx
 have htk := take49 hL1 hq x hx (by omega)
 have hln := h.cell0.1
 have hqn := blk_lt (h.acc q hq)
 have hpn := blk_lt (h.acc p hp)
 go_enter TryQ.func136, Tryz.ntmps136
 go_wp2_with fail
 refine htk.mono ?_
 rintro e w1 ⟨rfl, hL2, hp1⟩
 have hn1 : w1.heap[W.heap.size]? = _ := hp1.obj hn (by show (41 : Nat) ∉ [262]; decide) (by simp; omega)
 have n0 := blk_cell hn1 0
 have n1 := blk_cell hn1 1
 have n2 := blk_cell hn1 2
 have n3 := blk_cell hn1 3
 simp only [List.getElem?_toArray, List.getElem?_cons_zero, List.getElem?_cons_succ] at n0 n1 n2 n3
 have hgv := give94 hL2 (setA_mem_ne hp (fun e => hne e.symm) _) x hx (by simp; omega)
 clear htk
 go_wp2_with fail
 refine hgv.mono ?_
 rintro e w2 ⟨rfl, hL3, hp2⟩
 clear hgv n0 n1 n2 n3
 go_wp2
 simp [bodyPost, results, Tryz.results136, go_sem]
 refine ⟨by simpa using hL3, Pres.trans (.of_below hbx _ _) (Pres.trans (hp1.mono (fun k _ hk => by simp at hk; simp; omega) (fun t ht => ht)) (hp2.mono (fun k _ hk => by simp at hk; simp; omega) (fun t ht => ht)))⟩
end
end Go.Mark
set_option maxRecDepth 100000
set_option maxHeartbeats 2000000
namespace Go.Mark
open Go.RowKit Go.Proofs
variable [BaseB]
attribute [local go_sem] wd
def machCells (l : Nat) (lg : SV) (back depth : Int) : Array Value := #[.pointer (some ⟨l, 0, none⟩), .slice lg.a lg.n lg.c, .int .i64 back, .int .i64 depth]
section
variable {W : World} {l m mc : Nat} {dm : Dm} {cr : Int} {L : List (Int × Nat × Ac)} {J : List Value} {lg : SV} {back depth : Int}
theorem afford_yes (h : LG W l m dm cr L J) {q : Int × Nat × Ac} (hq : q ∈ L) (x : Nat) (hx : x < M) (hle : x <= q.2.2.bal) :
  Calls TryQ.prog 175 #[.pointer (some ⟨l, 0, none⟩), .int .i64 q.1, wd x] W fun e w' => e = .returned .nilIface /\ Below W.heap.size W w' := by
 have hbx : Below W.heap.size W (W.alloc (.cells #[.int .u64 (lim x 0), .int .u64 (lim x 1), .int .u64 (lim x 2), .int .u64 (lim x 3)] 41)) := ba
 have hn := blk_new W (.cells #[.int .u64 (lim x 0), .int .u64 (lim x 1), .int .u64 (lim x 2), .int .u64 (lim x 3)] 41)
 have hL1 := h.below hbx
 have hqb := h.bal q hq
 have hd : decide (q.2.2.bal < x) = false := by simp; omega
 go_enter TryQ.func175, Tryz.ntmps175
 go_wp2_with fail
 change Code.wp _ _ _ _ (W.alloc (.cells #[.int .u64 (lim x 0), .int .u64 (lim x 1), .int .u64 (lim x 2), .int .u64 (lim x 3)] 41))
 refine wp_region_held_drew (S := fun V => V.heap[W.heap.size]? = some (.cells #[.int .u64 (lim x 0), .int .u64 (lim x 1), .int .u64 (lim x 2), .int .u64 (lim x 3)] 41 (0, 0))) (by kernel_rfl) hn (fun hH => ?_)
 refine td (i := 0) (d := some 7) (v := .pointer (some ⟨l, 0, none⟩)) rfl rfl (fun V hW => ?_) hH ?_
 ·clear hW hH
  go_simp
 refine td (i := 1) (d := some 8) (v := .int .i64 q.1) rfl rfl (fun V hW => ?_) hH ?_
 ·clear hW hH
  go_simp
 refine td (i := 3) (d := some 10) (v := wd x) rfl rfl (fun V hW => ?_) hH ?_
 ·have k0 := blk_cell (hW) 0
  have k1 := blk_cell (hW) 1
  have k2 := blk_cell (hW) 2
  have k3 := blk_cell (hW) 3
  simp only [List.getElem?_toArray, List.getElem?_cons_zero, List.getElem?_cons_succ] at k0 k1 k2 k3
  clear hW hH
  go_simp
 refine r1 (i := 2) rfl (fun K hK => ?_)
 go_simp
 refine (balance86 (hL1.below (Below.refl _ _).drew) hq).mono ?_
 rintro e W1 ⟨rfl, hbn⟩
 go_wp2_with fail
 refine hK.out _ _ ((hbn.block _ (blk_lt hH)).trans hH) (fun hH => ?_)
 clear hK K
 refine r1 (i := 4) rfl (fun K hK => ?_)
 go_simp
 refine (less q.2.2.bal x hqb hx _).mono ?_
 rintro e W2 ⟨rfl, hbm⟩
 go_wp2_with fail
 refine hK.out _ _ ((hbm.block _ (blk_lt hH)).trans hH) (fun hH => ?_)
 clear hK K
 refine wpAnyH_done (by kernel_rfl) ?_ _
 go_wp2
 go_ret
 exact ⟨rfl, hbx.trans (((Below.refl _ _).drew.trans (hbn.trans (hbm.mono hbn.size))).mono hbx.size)⟩
theorem mayBegin_yes (h : LG W l m dm cr L J) (hm : W.heap[mc]? = some (.cells (machCells l lg back depth) 165 (0, 0))) (hdp : depth ≠ 64) {q : Int × Nat × Ac} (hq : q ∈ L) (x : Nat) (hx : x < M) (hle : x <= q.2.2.bal) :
  Calls TryQ.prog 133 #[.pointer (some ⟨mc, 0, none⟩), .int .i64 q.1, wd x] W fun e w' => e = .returned .nilIface /\ Below W.heap.size W w' := by
 have hbx : Below W.heap.size W (W.alloc (.cells #[.int .u64 (lim x 0), .int .u64 (lim x 1), .int .u64 (lim x 2), .int .u64 (lim x 3)] 41)) := ba
 have hn := blk_new W (.cells #[.int .u64 (lim x 0), .int .u64 (lim x 1), .int .u64 (lim x 2), .int .u64 (lim x 3)] 41)
 have hL1 := h.below hbx
 have hml := blk_lt hm
 have hm1 := blk_alloc (p := .cells #[.int .u64 (lim x 0), .int .u64 (lim x 1), .int .u64 (lim x 2), .int .u64 (lim x 3)] 41) hm
 have c3 := blk_cell hm 3
 simp only [machCells, List.getElem?_toArray, List.getElem?_cons_zero, List.getElem?_cons_succ] at c3
 go_enter TryQ.func133, Tryz.ntmps133
 go_wp2_with fail
 clear c3
 change Code.wp _ _ _ _ (W.alloc (.cells #[.int .u64 (lim x 0), .int .u64 (lim x 1), .int .u64 (lim x 2), .int .u64 (lim x 3)] 41))
 refine wp_region_held_drew (S := fun V => V.heap[W.heap.size]? = some (.cells #[.int .u64 (lim x 0), .int .u64 (lim x 1), .int .u64 (lim x 2), .int .u64 (lim x 3)] 41 (0, 0)) /\ V.heap[mc]? = some (.cells (machCells l lg back depth) 165 (0, 0))) (by kernel_rfl) ⟨hn, hm1⟩ (fun hH => ?_)
 refine td (i := 0) (d := some 13) (v := .pointer (some ⟨mc, 0, none⟩)) rfl rfl (fun V hW => ?_) hH ?_
 ·clear hW hH
  go_simp
 refine td (i := 1) (d := some 14) (v := .pointer (some ⟨mc, 0, none⟩)) rfl rfl (fun V hW => ?_) hH ?_
 ·clear hW hH
  go_simp
 refine td (i := 2) (d := some 15) (v := .pointer (some ⟨mc, 0, none⟩)) rfl rfl (fun V hW => ?_) hH ?_
 ·clear hW hH
  go_simp
 refine td (i := 3) (d := some 16) (v := .pointer (some ⟨l, 0, none⟩)) rfl rfl (fun V hW => ?_) hH ?_
 ·have k0 := blk_cell hW.2 0
  simp only [machCells, List.getElem?_toArray, List.getElem?_cons_zero] at k0
  clear hW hH
  go_simp
 refine td (i := 4) (d := some 17) (v := .int .i64 q.1) rfl rfl (fun V hW => ?_) hH ?_
 ·clear hW hH
  go_simp
 refine td (i := 5) (d := some 18) (v := wd x) rfl rfl (fun V hW => ?_) hH ?_
 ·have k0 := blk_cell (hW.1) 0
  have k1 := blk_cell (hW.1) 1
  have k2 := blk_cell (hW.1) 2
  have k3 := blk_cell (hW.1) 3
  simp only [List.getElem?_toArray, List.getElem?_cons_zero, List.getElem?_cons_succ] at k0 k1 k2 k3
  clear hW hH
  go_simp
 refine r1 (i := 6) rfl (fun K hK => ?_)
 go_simp
 refine (afford_yes (hL1.below (Below.refl _ _).drew) hq x hx hle).mono ?_
 rintro e W1 ⟨rfl, hbn⟩
 go_wp2_with fail
 refine hK.out _ _ ⟨(hbn.block _ (blk_lt hH.1)).trans hH.1, (hbn.block _ (blk_lt hH.2)).trans hH.2⟩ (fun hH => ?_)
 clear hK K
 refine td (i := 7) (d := some 6) (v := .nilIface) rfl rfl (fun V hW => ?_) hH ?_
 ·clear hW hH
  go_simp
 refine wpAnyH_done (by kernel_rfl) ?_ _
 go_wp2
 go_ret
 exact ⟨rfl, hbx.trans (((Below.refl _ _).drew.trans hbn).mono hbx.size)⟩
theorem now176 (h : LG W l m dm cr L J) (hm : W.heap[mc]? = some (.cells (machCells l lg back depth) 165 (0, 0))) :
  Calls TryQ.prog 176 #[.pointer (some ⟨mc, 0, none⟩)] W fun e w' => e = .returned (.agg #[.int .i64 (J.length : Int), .int .i64 (lg.n : Int), .int .i64 back]) /\ Below W.heap.size W w' := by
 have hbx : Below W.heap.size W (W.alloc (.cells #[.int .i64 0, .int .i64 0, .int .i64 0] 221)) := ba
 have hn := blk_new W (.cells #[.int .i64 0, .int .i64 0, .int .i64 0] 221)
 have hL1 := h.below hbx
 have hm1 := blk_alloc (p := .cells #[.int .i64 0, .int .i64 0, .int .i64 0] 221) hm
 go_enter TryQ.func176, Tryz.ntmps176
 go_wp2_with fail
 change Code.wp _ _ _ _ (W.alloc (.cells #[.int .i64 0, .int .i64 0, .int .i64 0] 221))
 refine wp_region_held_drew (S := fun V => V.heap[mc]? = some (.cells (machCells l lg back depth) 165 (0, 0)) /\ LG V l m dm cr L J) (by kernel_rfl) ⟨hm1, hL1.below (Below.refl _ _).drew⟩ (fun hH => ?_)
 refine td (i := 0) (d := some 3) (v := .pointer (some ⟨mc, 0, none⟩)) rfl rfl (fun V hW => ?_) hH ?_
 ·clear hW hH
  go_simp
 refine td (i := 1) (d := some 4) (v := .pointer (some ⟨mc, 0, none⟩)) rfl rfl (fun V hW => ?_) hH ?_
 ·clear hW hH
  go_simp
 refine td (i := 2) (d := some 5) (v := .pointer (some ⟨mc, 0, none⟩)) rfl rfl (fun V hW => ?_) hH ?_
 ·clear hW hH
  go_simp
 refine td (i := 3) (d := some 6) (v := .pointer (some ⟨l, 0, none⟩)) rfl rfl (fun V hW => ?_) hH ?_
 ·have k0 := blk_cell hW.1 0
  simp only [machCells, List.getElem?_toArray, List.getElem?_cons_zero] at k0
  clear hW hH
  go_simp
 refine td (i := 5) (d := some 8) (v := .pointer (some ⟨mc, 0, none⟩)) rfl rfl (fun V hW => ?_) hH ?_
 ·clear hW hH
  go_simp
 refine td (i := 6) (d := some 9) (v := .pointer (some ⟨mc, 0, none⟩)) rfl rfl (fun V hW => ?_) hH ?_
 ·clear hW hH
  go_simp
 refine td (i := 7) (d := some 10) (v := .pointer (some ⟨mc, 1, none⟩)) rfl rfl (fun V hW => ?_) hH ?_
 ·clear hW hH
  go_simp
 refine td (i := 8) (d := some 11) (v := .slice lg.a lg.n lg.c) rfl rfl (fun V hW => ?_) hH ?_
 ·have k0 := blk_cell hW.1 1
  simp only [machCells, List.getElem?_toArray, List.getElem?_cons_zero, List.getElem?_cons_succ] at k0
  clear hW hH
  go_simp
 refine td (i := 9) (d := some 12) (v := .int .i64 (lg.n : Int)) rfl rfl (fun V hW => ?_) hH ?_
 ·clear hW hH
  go_simp
 refine td (i := 10) (d := some 13) (v := .pointer (some ⟨mc, 0, none⟩)) rfl rfl (fun V hW => ?_) hH ?_
 ·clear hW hH
  go_simp
 refine td (i := 11) (d := some 14) (v := .pointer (some ⟨mc, 0, none⟩)) rfl rfl (fun V hW => ?_) hH ?_
 ·clear hW hH
  go_simp
 refine td (i := 12) (d := some 15) (v := .pointer (some ⟨mc, 2, none⟩)) rfl rfl (fun V hW => ?_) hH ?_
 ·clear hW hH
  go_simp
 refine td (i := 13) (d := some 16) (v := .int .i64 back) rfl rfl (fun V hW => ?_) hH ?_
 ·have k0 := blk_cell hW.1 2
  simp only [machCells, List.getElem?_toArray, List.getElem?_cons_zero, List.getElem?_cons_succ] at k0
  clear hW hH
  go_simp
 refine r1 (i := 4) rfl (fun K hK => ?_)
 go_simp
 refine (now221 hH.2).mono ?_
 rintro e W1 ⟨rfl, hw⟩
 subst hw
 go_wp2_with fail
 refine hK.out _ _ hH (fun hH => ?_)
 clear hK K
 refine td (i := 14) (d := some 17) (v := .agg #[.int .i64 (J.length : Int), .int .i64 (lg.n : Int), .int .i64 back]) rfl rfl (fun V hW => ?_) hH ?_
 ·clear hW hH
  go_simp
 refine r1 (i := 15) rfl (fun K hK => ?_)
 go_simp
 refine hK.out _ _ ⟨blk_alloc hm, h.below ba.drew⟩ (fun hH => ?_)
 clear hK K
 refine wpAnyH_done (by kernel_rfl) ?_ _
 go_wp2
 simp [bodyPost, results, Tryz.results176, go_sem]
 exact ba.drew
end
end Go.Mark
