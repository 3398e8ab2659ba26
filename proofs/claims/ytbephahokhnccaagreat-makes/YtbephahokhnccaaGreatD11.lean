/-
  The starter's round: a worker is started.
-/
import Derived.Test.YtbephahokhnccaaGreatD10
import Derived.Test.YtbephahokhnccaaGreatC2
set_option linter.unusedSectionVars false
namespace Go.Mark
open Go.Conc Go.Walk Go.Phase Go.RowKit Go.Conc.Lib Go.ConcR.Gen Go.ConcN.Gen Go.Lift Go.Proofs
open Go.ConcN (WgLive Has RW DWs AtR0 PayAt)
open Go.ConcR (KK WgAt stA smA rd wr mk Payload)
/-- what the starter comes to -/
def StopOf (c : Cfg) : Nat → Nat → Goroutine → World → Prop
  | 0, Low => AtKd c Low
  | r + 1, Low => AtKdS c Low (c.n - (r + 1)) (Spawns c r)
theorem spawns_of {c : Cfg} {r : Nat} {g : Goroutine} {w : World} (h : ∃ m, Goes c.P true (R0 c) (D0 c w.heap.size) (StopOf c r w.heap.size) m g w) : Spawns c r g w := by
  cases r <;> exact h
noncomputable def loop25 : Code := match Tryz.f25.body with
  | some (.seq _ (.seq _ (.seq _ (.seq (.seq _ (.block _ (.loop l))) _)))) => l
  | _ => .skip
noncomputable def rest25 : Code := match Tryz.f25.body with
  | some (.seq _ (.seq _ (.seq _ (.seq _ r)))) => r
  | _ => .skip
theorem nm36 : (Tryz.f36.name == "runtime.NumGoroutine") = false := by kernel_rfl
theorem store3 {o : Oper} {ev : Operand → Value} {x y : Operand} {b : Nat} {u : Value} {i : Int} (hop : o.op = .store 3 x y) (hx : ev x = pt b) (hy : ev y = .int .i64 i) (w : World) (hb : w.heap[b]? = some (.cells #[u] 3)) :
    ∃ w', (execOp ev o).run Tryz.prog w = .ok .skip w' ∧ (∀ e ∈ (execOp ev o).events Tryz.prog w #[], ∃ k, e = ⟨.cell ⟨b, k, none⟩, true, false⟩) ∧ w'.heap[b]? = some (.cells #[.int .i64 i] 3) ∧ (∀ b', b' ≠ b → w'.heap[b']? = w.heap[b']?) ∧ w'.heap.size = w.heap.size ∧ w'.os = w.os ∧ w'.output = w.output := by
  have hs := run_store1 (P := Tryz.prog) (w := w) hop hx hy (fun _ => by simp) (fun _ => by simp) Tryz.sizeOf3 (cell_of hb) (by simp [World.frozen?, hb])
  have hA := aside_setCell w ⟨b, 0, none⟩ (.int .i64 i)
  refine ⟨_, hs.1, fun e he => ?_, ?_, fun b' h => hA.block b' h, hA.size, hA.os, hA.output⟩
  · rw [hs.2, Array.mem_singleton] at he
    exact ⟨0, he⟩
  · rw [setCell_eq_setRow w b 0 #[u] _ (0, 0) _ hb, setRow_heap w b _ _ _ _ hb]
    rfl
theorem store31 {o : Oper} {ev : Operand → Value} {x y : Operand} {b : Nat} {old cells : Array Value} (hop : o.op = .store 31 x y) (hx : ev x = pt b) (hy : ev y = .agg cells) (h8 : cells.size = 8) (ho8 : old.size = 8) (h1 : cells.all (·.oneCell') = true) (w : World) (hb : w.heap[b]? = some (.cells old 31)) :
    ∃ w', (execOp ev o).run Tryz.prog w = .ok .skip w' ∧ (∀ e ∈ (execOp ev o).events Tryz.prog w #[], ∃ k, e = ⟨.cell ⟨b, k, none⟩, true, false⟩) ∧ w'.heap[b]? = some (.cells cells 31) ∧ (∀ b', b' ≠ b → w'.heap[b']? = w.heap[b']?) ∧ w'.heap.size = w.heap.size ∧ w'.os = w.os ∧ w'.output = w.output := by
  have hr := run_storeVar_row (P := Tryz.prog) w b 31 31 old cells hb (by rw [infoD31, h8]; rfl) (by omega) h1
  refine ⟨w.setRow b cells, ?_, fun e he => ?_, setRow_heap w b _ _ _ _ hb, fun b' h => ?_, ?_, rfl, rfl⟩
  · unfold execOp
    simp only [hop, hx, hy, Instr.storeAt, Instr.sureAddr]
    simp [hr]
  · unfold execOp at he
    simp only [hop, hx, hy, Instr.storeAt, Instr.sureAddr, storeVar] at he
    have he' : e ∈ (storeCells ⟨b, 0, none⟩ cells.toList 0).events Tryz.prog w #[] := by
      simpa [Value.cells, h8, Tryz.sizeOf31, go_sem] using he
    rcases ev_stores (P := Tryz.prog) b 31 cells.toList 0 old w #[] hb (by simp; omega) (fun v hv => (Array.all_eq_true_iff_forall_mem.1 h1) v (by simpa using hv)) e he' with h | h
    · simp at h
    · exact h
  · simp [World.setRow, Array.getElem?_modify, Ne.symm h]
  · simp [World.setRow]
section
variable {c : Cfg} (I : IsC c) {bm bacc cap : Nat} {X : Array Value} {code : Nat → ByteArray} {cs : List Frame}
/-- the rows that stay -/
def bs0 (c : Cfg) (bacc bm : Nat) (X : Array Value) : List Rw := [⟨bacc, X, 31⟩, ⟨bm, #[sl c.C c.n], 80⟩]
/-- what is asked of the accounts and of the configuration -/
structure Acc (c : Cfg) (bm bacc : Nat) (X : Array Value) (code : Nat → ByteArray) : Prop where
  gr : GR c (bs0 c bacc bm X)
  size : c.n * 8 ≤ X.size
  one : X.all (·.oneCell') = true
  cod : ∀ i, i < c.n → X[i * 8 + 6]? = some (.string (code i))
  short : ∀ i, i < c.n → (code i).size < 2147483648
  out : ∀ i, i < c.n → ∀ (w : World) (b : Nat), w.heap[b]? = some (.cells (marks (code i) (code i).size 0 (zeros (code i).size)) 4) → w.cell? ⟨c.C, i, none⟩ = some (sl b (code i).size) → c.Out i b w
  n31 : c.n < 2147483648
  bmB : c.base ≤ bm
theorem el_one (X : Array Value) (off : Nat) (h : X.all (·.oneCell') = true) (hl : off + 8 ≤ X.size) : (el X off).all (·.oneCell') = true := by
  rw [Array.all_eq_true_iff_forall_mem] at h ⊢
  intro v hv
  simp only [el, List.mem_toArray, List.mem_map, List.mem_range] at hv
  obtain ⟨j, hj, rfl⟩ := hv
  have hlt : off + j < X.size := by omega
  simp only [Array.getD_eq_getD_getElem?, Array.getElem?_eq_getElem hlt, Option.getD_some]
  exact h _ (Array.getElem_mem hlt)
theorem mono0 {P : Program} {main : Bool} {R : World → World → Prop} {D : World → World → Array Event → Prop} {Stop : Goroutine → World → Prop} {F F' : World → Prop} {n : Nat} {g : Goroutine} (hF : ∀ w, F' w → F w) (h : GoW P main R D Stop F n g) : GoW P main R D Stop F' n g := fun w hw => h w (hF w hw)
theorem F0.swap {Low : Nat} {p q : Rw} {bs : List Rw} (w : World) (h : F0 c Low (p :: q :: bs) w) : F0 c Low (q :: p :: bs) w :=
  ⟨fun x hx => h.rows x (by simp only [List.mem_cons] at hx ⊢; rcases hx with h | h | h <;> simp [h]), h.low, h.live⟩
theorem stepG_go_clo {P : Program} {main : Bool} {b : Frame} {a : Act} {k : List Item} {cs : List Frame} {ops : Array Oper} {i : Nat} {rest : List Nat} {o : Oper} {x : Operand} {f : FuncId} {caps : Array Value} {w : World} (ho : ops[i]? = some o) (hw : Region.wanted o (yielded ops a.tmps) = true) (hk : b.kind ≠ .early)
    (hop : o.op = .go { callee := .value x, args := #[], argTypes := #[] }) (hx : a.eval x = .func (.func f) #[] caps) :
    stepG P main (G (b.at a (.inRegion ops (i :: rest) :: k)) cs) w = .spawn (G (b.at (a.put o.dst undef) (.inRegion ops rest :: k)) cs) (born P (dclo f caps)) w #[] := by
  have hr : (execOp a.eval o).run P w = .ok (.spawn (dclo f caps)) w := by
    unfold execOp
    simp [hop, resolve, Deferred.ofValue, hx, dclo]
  have he : (execOp a.eval o).events P w #[] = #[] := by
    unfold execOp
    simp [hop, resolve, Deferred.ofValue, hx]
  rw [stepG_spawn ho hw hk hr rfl]
  unfold listed
  rw [he, seen_none]
set_option maxRecDepth 100000 in
set_option maxHeartbeats 4000000 in
theorem start (I : IsC c) (A : Acc c bm bacc X code) {r Low i : Nat} (hr : i + (r + 1) = c.n) (L : Lo c Low) {v1 v2 v5 v6 v7 v8 v9 v13 v14 v15 v16 v17 v18 v19 v20 v21 : Value}
    (hN : ∀ (Low' : Nat) (v1 v2 v5 v6 v7 v8 v9 v13 v14 v15 v16 v17 v18 v19 v20 v21 : Value), Lo c Low' → GoW Tryz.prog true (R0 c) (D0 c Low') (StopOf c r Low') (F0 c Low' (bs0 c bacc bm X)) 100 (G ((base 25).at ⟨#[.slice (some ⟨bacc, 0, none⟩) c.n cap, v1, v2, pt bm, pt c.Wg, v5, v6, v7, v8, v9, .slice (some ⟨bacc, 0, none⟩) c.n cap, .int .i64 (c.n : Int), .int .i64 ((i + 1 : Nat) : Int), v13, v14, v15, v16, v17, v18, v19, v20, v21], []⟩ [.code loop25, .inLoop loop25, .inBlock 0, .code rest25]) cs)) :
    GoW Tryz.prog true (R0 c) (D0 c Low) (StopOf c (r + 1) Low) (F0 c Low (bs0 c bacc bm X)) 100 (G ((base 25).at ⟨#[.slice (some ⟨bacc, 0, none⟩) c.n cap, v1, v2, pt bm, pt c.Wg, v5, v6, v7, v8, v9, .slice (some ⟨bacc, 0, none⟩) c.n cap, .int .i64 (c.n : Int), .int .i64 (i : Int), v13, v14, v15, v16, v17, v18, v19, v20, v21], []⟩ [.code loop25, .inLoop loop25, .inBlock 0, .code rest25]) cs) := by
  have g0 := A.gr
  have E := env0 (Low := Low) I g0
  obtain ⟨lp, hlp⟩ : ∃ l, l = loop25 := ⟨_, rfl⟩
  generalize hrs : rest25 = rs at hN ⊢
  rw [← hlp] at hN ⊢
  have hlp' := hlp
  simp only [loop25, Tryz.f25] at hlp'
  rw [show (Item.code lp) = Item.code _ from congrArg Item.code hlp']
  have c1 : (i : Int) < (c.n : Int) := by omega
  have e3 := ev_mf
  repeat (first
    | refine gw_seq E ?_
    | refine gw_skip E ?_
    | refine gw_region_end E ?_
    | refine gw_region_1 E ?_
    | refine gw_region_2 E ?_
    | refine gw_region_7 E ?_
    | refine gw_true E rfl ?_
    | refine gw_block E ?_
    | refine gw_inLoop E ?_
    | refine gw_inBlock E ?_
    | refine gw_true E (by simp [Act.eval]; omega) ?_
    | (refine gw_opk E rfl rfl (by k_ne) (fun w hF K hK => ?_); go_simp; refine hK _ (by simp [go_sem, *]) ?_; clear hK K hF w; try w_num))
  have hb8 : i * 8 + 8 ≤ X.size := by have := A.size; omega
  refine gw_reads E rfl rfl (by k_ne) (fun w hF => (run_elem rfl rfl (hF.rows _ List.mem_cons_self) hb8).1) (fun w hF => d0_read0 I g0 (q := ⟨bacc, X, 31⟩) List.mem_cons_self hF.rows (fun e he => (run_elem rfl rfl (hF.rows _ List.mem_cons_self) hb8).2 e (mem_listed he))) ?_
  walk_nrm
  refine g0_new I g0 rfl rfl (by k_ne) (fun w => run_alloc rfl Tryz.zeroValue3 (ev_zero 3 info3 rfl) w) (fun bi hbi hni => ?_)
  walk_nrm
  have g1 := fun x => g0.cons I L (q := ⟨bi, x, 3⟩) hbi (by simp)
  refine g0_new I (g1 _) rfl rfl (by k_ne) (fun w => run_alloc rfl Tryz.zeroValue31 (ev_zero 31 infoD31 rfl) w) (fun ba hba hna => ?_)
  walk_nrm
  have hne : ba ≠ bi := Ne.symm (hna _ List.mem_cons_self)
  have hna0 : ∀ q ∈ bs0 c bacc bm X, q.b ≠ ba := fun q hq => hna q (List.mem_cons_of_mem _ hq)
  have g2 := fun x => g0.cons I L (q := ⟨ba, x, 31⟩) hba (by simp)
  have g3 := fun x y => (g1 x).cons I L (q := ⟨ba, y, 31⟩) hba (by simp)
  refine mono0 F0.swap ?_
  refine g0_store I L (g2 _) rfl rfl (by k_ne) hbi (fun q hq => ?_) (by decide) (fun w hb => store3 rfl rfl rfl w hb) ?_
  · rcases List.mem_cons.1 hq with rfl | hq
    · exact hne
    · exact hni q hq
  walk_nrm
  refine mono0 F0.swap ?_
  refine g0_store I L (g1 _) rfl rfl (by k_ne) hba (fun q hq => ?_) (by decide) (fun w hb => store31 rfl rfl rfl (el_size _ _) rfl (el_one _ _ A.one hb8) w hb) ?_
  · rcases List.mem_cons.1 hq with rfl | hq
    · exact Ne.symm hne
    · exact hna0 q hq
  walk_nrm
  replace E := env0 (Low := Low) I (g3 #[.int .i64 (i : Int)] (el X (i * 8)))
  repeat (first
    | refine gw_seq E ?_
    | refine gw_skip E ?_
    | refine gw_region_end E ?_
    | refine gw_region_1 E ?_
    | refine gw_region_2 E ?_
    | refine gw_region_7 E ?_
    | refine gw_true E rfl ?_
    | refine gw_block E ?_
    | refine gw_inLoop E ?_
    | refine gw_inBlock E ?_
    | refine gw_true E (by simp [Act.eval]; omega) ?_
    | (refine gw_opk E rfl rfl (by k_ne) (fun w hF K hK => ?_); go_simp; refine hK _ (by simp [go_sem, *]) ?_; clear hK K hF w; try w_num))
  refine gw_call E rfl rfl (by k_ne) rfl Tryz.func36 nm36 rfl ?_
  walk_nrmf Tryz.f36
  repeat (first
    | refine gw_seq E ?_
    | refine gw_skip E ?_
    | refine gw_region_end E ?_
    | refine gw_region_1 E ?_
    | refine gw_region_2 E ?_
    | refine gw_region_7 E ?_
    | refine gw_true E rfl ?_
    | refine gw_block E ?_
    | refine gw_inLoop E ?_
    | refine gw_inBlock E ?_
    | refine gw_true E (by simp [Act.eval]; omega) ?_
    | (refine gw_opk E rfl rfl (by k_ne) (fun w hF K hK => ?_); go_simp; refine hK _ (by simp [go_sem, *]) ?_; clear hK K hF w; try w_num))
  refine g0_new I (g3 _ _) rfl rfl (by k_ne) (fun w => run_box rfl rfl w) (fun bw hbw hnw => ?_)
  walk_nrm
  have g4 := fun x => (g3 #[.int .i64 (i : Int)] (el X (i * 8))).cons I L (q := ⟨bw, x, 125⟩) hbw (by simp)
  refine g0_new I (g4 _) rfl rfl (by k_ne) (fun w => run_box rfl rfl w) (fun bf hbf hnf => ?_)
  walk_nrm
  have g5 := fun x y => (g4 x).cons I L (q := ⟨bf, y, 1⟩) hbf (by simp)
  replace E := env0 (Low := Low) I (g5 #[pt c.Wg] #[.func (.func 37) #[] #[pt ba, pt bm, pt bi]])
  have gb := g5 #[pt c.Wg] #[.func (.func 37) #[] #[pt ba, pt bm, pt bi]]
  have hi : c.n - (r + 1) = i := by omega
  show GoW Tryz.prog true (R0 c) (D0 c Low) (AtKdS c Low (c.n - (r + 1)) (Spawns c r)) (F0 c Low (⟨bf, #[.func (.func 37) #[] #[pt ba, pt bm, pt bi]], 1⟩ :: ⟨bw, #[pt c.Wg], 125⟩ :: ⟨ba, el X (i * 8), 31⟩ :: ⟨bi, #[.int .i64 (i : Int)], 3⟩ :: bs0 c bacc bm X)) 74 _
  rw [hi]
  generalize hbs : (⟨bf, #[.func (.func 37) #[] #[pt ba, pt bm, pt bi]], 1⟩ :: ⟨bw, #[pt c.Wg], 125⟩ :: ⟨ba, el X (i * 8), 31⟩ :: ⟨bi, #[.int .i64 (i : Int)], 3⟩ :: bs0 c bacc bm X : List Rw) = bs5 at E gb
  have m5 : ∀ q, q ∈ bs5 ↔ (q = ⟨bf, #[.func (.func 37) #[] #[pt ba, pt bm, pt bi]], 1⟩ ∨ q = ⟨bw, #[pt c.Wg], 125⟩ ∨ q = ⟨ba, el X (i * 8), 31⟩ ∨ q = ⟨bi, #[.int .i64 (i : Int)], 3⟩ ∨ q ∈ bs0 c bacc bm X) := fun q => by
    rw [← hbs]; simp only [List.mem_cons]
  have mf := (m5 _).2 (.inl rfl)
  have mw := (m5 _).2 (.inr (.inl rfl))
  have ma := (m5 _).2 (.inr (.inr (.inl rfl)))
  have mi := (m5 _).2 (.inr (.inr (.inr (.inl rfl))))
  have m0 : ∀ q ∈ bs0 c bacc bm X, q ∈ bs5 := fun q hq => (m5 _).2 (.inr (.inr (.inr (.inr hq))))
  repeat (first
    | refine gw_seq E ?_
    | refine gw_skip E ?_
    | refine gw_region_end E ?_
    | refine gw_region_1 E ?_
    | refine gw_region_2 E ?_
    | refine gw_region_7 E ?_
    | refine gw_true E rfl ?_
    | refine gw_block E ?_
    | refine gw_inLoop E ?_
    | refine gw_inBlock E ?_
    | refine gw_true E (by simp [Act.eval]; omega) ?_
    | (refine gw_reads E rfl rfl (by k_ne) (fun w hF => (run_load1 rfl rfl Tryz.sizeOf125 Tryz.isAgg125 (cell_of (hF.rows _ mw))).1) (fun w hF => d0_read0 I gb mw hF.rows (fun e he => ⟨0, by have he := mem_listed he; rw [(run_load1 rfl rfl Tryz.sizeOf125 Tryz.isAgg125 (cell_of (hF.rows _ mw))).2, Array.mem_singleton] at he; exact he⟩)) ?_; walk_nrm)
    | (refine gw_opk E rfl rfl (by k_ne) (fun w hF K hK => ?_); go_simp; refine hK _ (by simp [go_sem, *]) ?_; clear hK K hF w; try w_num))
  refine gw_call E rfl rfl (by k_ne) rfl Tryz.wgLib.f_add (nm_add Tryz.link) (c := body_add Tryz.link) rfl ?_
  refine gw_up E (n := 40) ?_ (by omega)
  walk_nrm
  rw [show (addFn Tryz.link).ntmps - 2 = 115 from rfl]
  have hXc : ∀ w w₁, (HR bs5 w ∧ Low ≤ w.heap.size) → R0 c w w₁ → (HR bs5 w₁ ∧ Low ≤ w₁.heap.size) := fun w w₁ h r =>
    ⟨fun q hq => (r.keep q.b (lt_of_heap (h.1 q hq)) (gb.wg q hq) (gb.cc q hq) (notB I (h.1 q hq) (gb.ty q hq))).trans (h.1 q hq), Nat.le_trans h.2 r.size⟩
  have ad := @addX _ Tryz.link c (by rw [I.P]; exact Tryz.wgLib) Low i (Spawns c r) (fun w => HR bs5 w ∧ Low ≤ w.heap.size) hXc
  rw [I.P] at ad
  refine mono0 (fun w hF => ⟨⟨hF.rows, hF.low⟩, by rw [I.ty]; exact hF.live⟩) (ad (mT := 40) (fun w hX hl => ?_))
  rw [I.ty] at hl
  have hF0 : F0 c Low bs5 w := ⟨hX.1, hX.2, hl⟩
  clear ad hX hl
  revert w
  show GoW Tryz.prog true (R0 c) (D0 c Low) (AtGo c i (Spawns c r)) (F0 c Low bs5) 40 _
  walk_nrm
  repeat (first
    | refine gw_seq E ?_
    | refine gw_skip E ?_
    | refine gw_region_end E ?_
    | refine gw_region_1 E ?_
    | refine gw_region_2 E ?_
    | refine gw_region_7 E ?_
    | refine gw_true E rfl ?_
    | refine gw_block E ?_
    | refine gw_inLoop E ?_
    | refine gw_inBlock E ?_
    | refine gw_true E (by simp [Act.eval]; omega) ?_
    | (refine gw_opk E rfl rfl (by k_ne) (fun w hF K hK => ?_); go_simp; refine hK _ (by simp [go_sem, *]) ?_; clear hK K hF w; try w_num))
  refine gw_stop E (fun w hF => ?_)
  unfold Phase.AtGo
  rw [I.P]
  refine ⟨rfl, _, _, stepG_go_clo rfl rfl (by k_ne) rfl rfl, rfl, fun hp => ?_, spawns_of ?_⟩
  · rw [← I.P]
    have hlo := hF.low
    have bx : ∀ q ∈ bs5, c.base ≤ q.b → Box c w.heap.size q.b := fun q hq hb => ⟨hb, lt_of_heap (hF.rows q hq), gb.wg q hq, gb.cc q hq⟩
    have hbase := L.ba
    have mm := m0 ⟨bm, #[sl c.C c.n], 80⟩ (by simp [bs0])
    refine works I (bm := bm) (bi := bi) (ba := ba) (bw := bw) (bf := bf) ⟨bx _ mm A.bmB, bx _ mi (by show c.base ≤ bi; omega), bx _ ma (by show c.base ≤ ba; omega), bx _ mw (by show c.base ≤ bw; omega), bx _ mf (by show c.base ≤ bf; omega)⟩ (by omega) (A.short i (by omega)) (A.out i (by omega)) ⟨hF.rows _ mm, hF.rows _ mi, ⟨_, hF.rows _ ma, ?_⟩, hF.rows _ mw, hF.rows _ mf, hF.live, hp⟩
    rw [el_at _ _ _ (by omega) (by omega)]
    exact A.cod i (by omega)
  · have L' : Lo c w.heap.size := ⟨Nat.lt_of_lt_of_le L.wg hF.low, Nat.lt_of_lt_of_le L.cc hF.low, Nat.le_trans L.ba hF.low⟩
    replace E := env0 (Low := w.heap.size) I g0
    have hw1 : IntKind.i64.wrap ((i : Int) + 1) = (i : Int) + 1 := by have := A.n31; rw [IntKind.wrap_i64]; omega
    refine ⟨140, ?_⟩
    rw [I.P]
    suffices GoW Tryz.prog true (R0 c) (D0 c w.heap.size) (StopOf c r w.heap.size) (F0 c w.heap.size (bs0 c bacc bm X)) 140 _ from this w ⟨fun q hq => hF.rows q (m0 q hq), Nat.le_refl _, hF.live⟩
    walk_nrm
    repeat (first
      | refine gw_seq E ?_
      | refine gw_skip E ?_
      | refine gw_region_end E ?_
      | refine gw_region_1 E ?_
      | refine gw_region_2 E ?_
      | refine gw_region_7 E ?_
      | refine gw_true E rfl ?_
      | refine gw_block E ?_
      | refine gw_inLoop E ?_
      | refine gw_inBlock E ?_
      | refine gw_true E (by simp [Act.eval]; omega) ?_
      | (refine gw_end E ?_)
      | (refine gw_leave0 E rfl rfl Tryz.func36 rfl ?_; walk_nrm)
      | (refine gw_opk E rfl rfl (by k_ne) (fun w hF K hK => ?_); go_simp; refine hK _ (by simp [go_sem, *]) ?_; clear hK K hF w; try w_num))
    rw [show (i : Int) + 1 = ((i + 1 : Nat) : Int) by omega]
    exact gw_up E (hN w.heap.size _ _ _ _ _ _ _ _ _ _ _ _ _ _ _ _ L') (by omega)
end
end Go.Mark
