import Derived.Test.YtbephahokhnccaaGreatDoorXD9toC2
set_option linter.unusedSectionVars false
set_option maxRecDepth 100000
set_option maxHeartbeats 4000000
namespace Go.Mark
open Go.Conc Go.Walk Go.Phase Go.RowKit Go.Conc.Lib Go.ConcR.Gen Go.ConcN.Gen Go.Lift Go.Proofs
open Go.ConcN (WgLive Has RW DWs AtR0 PayAt)
open Go.ConcR (KK WgAt stA smA rd wr mk Payload)
def StopOf (c : Cfg) : Nat -> Nat -> Goroutine -> World -> Prop
 | 0, Low => AtKd c Low
 | r + 1, Low => AtKdS c Low (c.n - (r + 1)) (Spawns c r)
theorem spawns_of {c : Cfg} {r : Nat} {g : Goroutine} {w : World} (h : ∃ m, Goes c.P true (R0 c) (D0 c w.heap.size) (StopOf c r w.heap.size) m g w) : Spawns c r g w := by
 cases r <;> exact h
noncomputable def loop25 : Code := match Tryz.f60.body with
 | some (.seq _ (.seq _ (.seq _ (.seq (.seq _ (.block _ (.loop l))) _)))) => l
 | _ => .skip
noncomputable def rest25 : Code := match Tryz.f60.body with
 | some (.seq _ (.seq _ (.seq _ (.seq _ r)))) => r
 | _ => .skip
theorem nm36 : (Tryz.f97.name == "runtime.NumGoroutine") = false := by kernel_rfl
theorem store3 {o : Oper} {ev : Operand -> Value} {x y : Operand} {b : Nat} {u : Value} {i : Int} (hop : o.op = .store 3 x y) (hx : ev x = pt b) (hy : ev y = .int .i64 i) (w : World) (hb : w.heap[b]? = some (.cells #[u] 3)) :
  ∃ w', (execOp ev o).run Tryz.prog w = .ok .skip w' /\ (∀ e ∈ (execOp ev o).events Tryz.prog w #[], ∃ k, e = ⟨.cell ⟨b, k, none⟩, true, false⟩) /\ w'.heap[b]? = some (.cells #[.int .i64 i] 3) /\ (∀ b', b' ≠ b -> w'.heap[b']? = w.heap[b']?) /\ w'.heap.size = w.heap.size /\ w'.os = w.os /\ w'.output = w.output := by
 have hs := run_store1 (P := Tryz.prog) (w := w) hop hx hy (fun _ => by simp) (fun _ => by simp) Tryz.sizeOf3 (cell_of hb) (by simp [World.frozen?, hb])
 have hA := aside_setCell w ⟨b, 0, none⟩ (.int .i64 i)
 refine ⟨_, hs.1, fun e he => ?_, ?_, fun b' h => hA.block b' h, hA.size, hA.os, hA.output⟩
 ·rw [hs.2, Array.mem_singleton] at he
  exact ⟨0, he⟩
 ·rw [setCell_eq_setRow w b 0 #[u] _ (0, 0) _ hb, setRow_heap w b _ _ _ _ hb]
  rfl
theorem store31 {o : Oper} {ev : Operand -> Value} {x y : Operand} {b : Nat} {old cells : Array Value} (hop : o.op = .store 52 x y) (hx : ev x = pt b) (hy : ev y = .agg cells) (h8 : cells.size = 8) (ho8 : old.size = 8) (h1 : cells.all (·.oneCell') = true) (w : World) (hb : w.heap[b]? = some (.cells old 52)) :
  ∃ w', (execOp ev o).run Tryz.prog w = .ok .skip w' /\ (∀ e ∈ (execOp ev o).events Tryz.prog w #[], ∃ k, e = ⟨.cell ⟨b, k, none⟩, true, false⟩) /\ w'.heap[b]? = some (.cells cells 52) /\ (∀ b', b' ≠ b -> w'.heap[b']? = w.heap[b']?) /\ w'.heap.size = w.heap.size /\ w'.os = w.os /\ w'.output = w.output := by
 have hr := run_storeVar_row (P := Tryz.prog) w b 52 52 old cells hb (by rw [infoD31, h8]; rfl) (by omega) h1
 refine ⟨w.setRow b cells, ?_, fun e he => ?_, setRow_heap w b _ _ _ _ hb, fun b' h => ?_, ?_, rfl, rfl⟩
 ·unfold execOp
  simp only [hop, hx, hy, Instr.storeAt, Instr.sureAddr]
  simp [hr]
 ·unfold execOp at he
  simp only [hop, hx, hy, Instr.storeAt, Instr.sureAddr, storeVar] at he
  have he' : e ∈ (storeCells ⟨b, 0, none⟩ cells.toList 0).events Tryz.prog w #[] := by
   simpa [Value.cells, h8, Tryz.sizeOf52, go_sem] using he
  rcases ev_stores (P := Tryz.prog) b 52 cells.toList 0 old w #[] hb (by simp; omega) (fun v hv => (Array.all_eq_true_iff_forall_mem.1 h1) v (by simpa using hv)) e he' with h | h
  ·simp at h
  ·exact h
 ·simp [World.setRow, Array.getElem?_modify, Ne.symm h]
 ·simp [World.setRow]
section
variable {c : Cfg} (I : IsC c) {bm bacc cap : Nat} {X : Array Value} {code : Nat -> ByteArray} {cs : List Frame}
def bs0 (c : Cfg) (bacc bm : Nat) (X : Array Value) : List Rw := [⟨bacc, X, 52⟩, ⟨bm, #[sl c.C c.n], 122⟩]
structure Acc (c : Cfg) (bm bacc : Nat) (X : Array Value) (code : Nat -> ByteArray) : Prop where
 gr : GR c (bs0 c bacc bm X)
 size : c.n * 8 <= X.size
 one : X.all (·.oneCell') = true
 cod : ∀ i, i < c.n -> X[i * 8 + 6]? = some (.string (code i))
 short : ∀ i, i < c.n -> (code i).size < 2147483648
 out : ∀ i, i < c.n -> ∀ (w : World) (b : Nat), w.heap[b]? = some (.cells (marks (code i) (code i).size 0 (zeros (code i).size)) 4) -> w.cell? ⟨c.C, i, none⟩ = some (sl b (code i).size) -> c.Out i b w
 n31 : c.n < 2147483648
 bmB : c.base <= bm
theorem el_one (X : Array Value) (off : Nat) (h : X.all (·.oneCell') = true) (hl : off + 8 <= X.size) : (el X off).all (·.oneCell') = true := by
 rw [Array.all_eq_true_iff_forall_mem] at h ⊢
 intro v hv
 simp only [el, List.mem_toArray, List.mem_map, List.mem_range] at hv
 obtain ⟨j, hj, rfl⟩ := hv
 have hlt : off + j < X.size := by omega
 simp only [Array.getD_eq_getD_getElem?, Array.getElem?_eq_getElem hlt, Option.getD_some]
 exact h _ (Array.getElem_mem hlt)
theorem mono0 {P : Program} {main : Bool} {R : World -> World -> Prop} {D : World -> World -> Array Event -> Prop} {Stop : Goroutine -> World -> Prop} {F F' : World -> Prop} {n : Nat} {g : Goroutine} (hF : ∀ w, F' w -> F w) (h : GoW P main R D Stop F n g) : GoW P main R D Stop F' n g := fun w hw => h w (hF w hw)
theorem F0.swap {Low : Nat} {p q : Rw} {bs : List Rw} (w : World) (h : F0 c Low (p :: q :: bs) w) : F0 c Low (q :: p :: bs) w :=
 ⟨fun x hx => h.rows x (by simp only [List.mem_cons] at hx ⊢; rcases hx with h | h | h <;> simp [h]), h.low, h.live⟩
theorem stepG_go_clo {P : Program} {main : Bool} {b : Frame} {a : Act} {k : List Item} {cs : List Frame} {ops : Array Oper} {i : Nat} {rest : List Nat} {o : Oper} {x : Operand} {f : FuncId} {caps : Array Value} {w : World} (ho : ops[i]? = some o) (hw : Region.wanted o (yielded ops a.tmps) = true) (hk : b.kind ≠ .early)
  (hop : o.op = .go { callee := .value x, args := #[], argTypes := #[] }) (hx : a.eval x = .func (.func f) #[] caps) :
  stepG P main (G (b.at a (.inRegion ops (i :: rest) :: k)) cs) w = .spawn (G (b.at (a.put o.dst undef) (.inRegion ops rest :: k)) cs) (born P (dclo f caps)) w #[] := by
 have hr : (execOp a.eval o).run P w = .ok (.spawn (dclo f caps)) w := by
  unfold execOp
  simp [hop, resolve, Deferred.ofValue, hx, dclo]
 have he : (execOp a.eval o).events P w #[] = #[] := by
  unfold execOp
  simp [hop, resolve, Deferred.ofValue, hx]
 rw [stepG_spawn ho hw hk hr rfl]
 unfold listed
 rw [he, seen_none]
theorem start (I : IsC c) (A : Acc c bm bacc X code) {r Low i : Nat} (hr : i + (r + 1) = c.n) (L : Lo c Low) {v1 v2 v5 v6 v7 v8 v9 v13 v14 v15 v16 v17 v18 v19 v20 v21 : Value}
  (hN : ∀ (Low' : Nat) (v1 v2 v5 v6 v7 v8 v9 v13 v14 v15 v16 v17 v18 v19 v20 v21 : Value), Lo c Low' -> GoW Tryz.prog true (R0 c) (D0 c Low') (StopOf c r Low') (F0 c Low' (bs0 c bacc bm X)) 100 (G ((base 60).at ⟨#[.slice (some ⟨bacc, 0, none⟩) c.n cap, v1, v2, pt bm, pt c.Wg, v5, v6, v7, v8, v9, .slice (some ⟨bacc, 0, none⟩) c.n cap, .int .i64 (c.n : Int), .int .i64 ((i + 1 : Nat) : Int), v13, v14, v15, v16, v17, v18, v19, v20, v21], []⟩ [.code loop25, .inLoop loop25, .inBlock 0, .code rest25]) cs)) :
  GoW Tryz.prog true (R0 c) (D0 c Low) (StopOf c (r + 1) Low) (F0 c Low (bs0 c bacc bm X)) 100 (G ((base 60).at ⟨#[.slice (some ⟨bacc, 0, none⟩) c.n cap, v1, v2, pt bm, pt c.Wg, v5, v6, v7, v8, v9, .slice (some ⟨bacc, 0, none⟩) c.n cap, .int .i64 (c.n : Int), .int .i64 (i : Int), v13, v14, v15, v16, v17, v18, v19, v20, v21], []⟩ [.code loop25, .inLoop loop25, .inBlock 0, .code rest25]) cs) := by
 have g0 := A.gr
 have E := env0 (Low := Low) I g0
 obtain ⟨lp, hlp⟩ : ∃ l, l = loop25 := ⟨_, rfl⟩
 generalize hrs : rest25 = rs at hN ⊢
 rw [<- hlp] at hN ⊢
 have hlp' := hlp
 simp only [loop25, Tryz.f60] at hlp'
 rw [show (Item.code lp) = Item.code _ from congrArg Item.code hlp']
 have c1 : (i : Int) < (c.n : Int) := by omega
 have e3 := ev_mf
 repeat (first
  | refine gw_seq E ?_
  | refine gw_skip E ?_
  | refine gw_region_end E ?_
  | refine gw_region_1 E ?_
  | refine gw_region_2 E ?_
  | refine gw_region_7 E ?_
  | refine gw_true E rfl ?_
  | refine gw_block E ?_
  | refine gw_inLoop E ?_
  | refine gw_inBlock E ?_
  | refine gw_true E (by simp [Act.eval]; omega) ?_
  | (refine gw_opk E rfl rfl (by k_ne) (fun w hF K hK => ?_); go_simp; refine hK _ (by simp [go_sem, *]) ?_; clear hK K hF w; try w_num))
 have hb8 : i * 8 + 8 <= X.size := by have := A.size; omega
 refine gw_reads E rfl rfl (by k_ne) (fun w hF => (run_elem rfl rfl (hF.rows _ List.mem_cons_self) hb8).1) (fun w hF => d0_read0 I g0 (q := ⟨bacc, X, 52⟩) List.mem_cons_self hF.rows (fun e he => (run_elem rfl rfl (hF.rows _ List.mem_cons_self) hb8).2 e (mem_listed he))) ?_
 walk_nrm
 refine g0_new I g0 rfl rfl (by k_ne) (fun w => run_alloc rfl Tryz.zeroValue3 (ev_zero 3 info3 rfl) w) (fun bi hbi hni => ?_)
 walk_nrm
 have g1 := fun x => g0.cons I L (q := ⟨bi, x, 3⟩) hbi (by simp)
 refine g0_new I (g1 _) rfl rfl (by k_ne) (fun w => run_alloc rfl Tryz.zeroValue52 (ev_zero 52 infoD31 rfl) w) (fun ba hba hna => ?_)
 walk_nrm
 have hne : ba ≠ bi := Ne.symm (hna _ List.mem_cons_self)
 have hna0 : ∀ q ∈ bs0 c bacc bm X, q.b ≠ ba := fun q hq => hna q (List.mem_cons_of_mem _ hq)
 have g2 := fun x => g0.cons I L (q := ⟨ba, x, 52⟩) hba (by simp)
 have g3 := fun x y => (g1 x).cons I L (q := ⟨ba, y, 52⟩) hba (by simp)
 refine mono0 F0.swap ?_
 refine g0_store I L (g2 _) rfl rfl (by k_ne) hbi (fun q hq => ?_) (by decide) (fun w hb => store3 rfl rfl rfl w hb) ?_
 ·rcases List.mem_cons.1 hq with rfl | hq
  ·exact hne
  ·exact hni q hq
 walk_nrm
 refine mono0 F0.swap ?_
 refine g0_store I L (g1 _) rfl rfl (by k_ne) hba (fun q hq => ?_) (by decide) (fun w hb => store31 rfl rfl rfl (el_size _ _) rfl (el_one _ _ A.one hb8) w hb) ?_
 ·rcases List.mem_cons.1 hq with rfl | hq
  ·exact Ne.symm hne
  ·exact hna0 q hq
 walk_nrm
 replace E := env0 (Low := Low) I (g3 #[.int .i64 (i : Int)] (el X (i * 8)))
 repeat (first
  | refine gw_seq E ?_
  | refine gw_skip E ?_
  | refine gw_region_end E ?_
  | refine gw_region_1 E ?_
  | refine gw_region_2 E ?_
  | refine gw_region_7 E ?_
  | refine gw_true E rfl ?_
  | refine gw_block E ?_
  | refine gw_inLoop E ?_
  | refine gw_inBlock E ?_
  | refine gw_true E (by simp [Act.eval]; omega) ?_
  | (refine gw_opk E rfl rfl (by k_ne) (fun w hF K hK => ?_); go_simp; refine hK _ (by simp [go_sem, *]) ?_; clear hK K hF w; try w_num))
 refine gw_call E rfl rfl (by k_ne) rfl Tryz.func97 nm36 rfl ?_
 walk_nrmf Tryz.f97
 repeat (first
  | refine gw_seq E ?_
  | refine gw_skip E ?_
  | refine gw_region_end E ?_
  | refine gw_region_1 E ?_
  | refine gw_region_2 E ?_
  | refine gw_region_7 E ?_
  | refine gw_true E rfl ?_
  | refine gw_block E ?_
  | refine gw_inLoop E ?_
  | refine gw_inBlock E ?_
  | refine gw_true E (by simp [Act.eval]; omega) ?_
  | (refine gw_opk E rfl rfl (by k_ne) (fun w hF K hK => ?_); go_simp; refine hK _ (by simp [go_sem, *]) ?_; clear hK K hF w; try w_num))
 refine g0_new I (g3 _ _) rfl rfl (by k_ne) (fun w => run_box rfl rfl w) (fun bw hbw hnw => ?_)
 walk_nrm
 have g4 := fun x => (g3 #[.int .i64 (i : Int)] (el X (i * 8))).cons I L (q := ⟨bw, x, 234⟩) hbw (by simp)
 refine g0_new I (g4 _) rfl rfl (by k_ne) (fun w => run_box rfl rfl w) (fun bf hbf hnf => ?_)
 walk_nrm
 have g5 := fun x y => (g4 x).cons I L (q := ⟨bf, y, 1⟩) hbf (by simp)
 replace E := env0 (Low := Low) I (g5 #[pt c.Wg] #[.func (.func 98) #[] #[pt ba, pt bm, pt bi]])
 have gb := g5 #[pt c.Wg] #[.func (.func 98) #[] #[pt ba, pt bm, pt bi]]
 have hi : c.n - (r + 1) = i := by omega
 show GoW Tryz.prog true (R0 c) (D0 c Low) (AtKdS c Low (c.n - (r + 1)) (Spawns c r)) (F0 c Low (⟨bf, #[.func (.func 98) #[] #[pt ba, pt bm, pt bi]], 1⟩ :: ⟨bw, #[pt c.Wg], 234⟩ :: ⟨ba, el X (i * 8), 52⟩ :: ⟨bi, #[.int .i64 (i : Int)], 3⟩ :: bs0 c bacc bm X)) 74 _
 rw [hi]
 generalize hbs : (⟨bf, #[.func (.func 98) #[] #[pt ba, pt bm, pt bi]], 1⟩ :: ⟨bw, #[pt c.Wg], 234⟩ :: ⟨ba, el X (i * 8), 52⟩ :: ⟨bi, #[.int .i64 (i : Int)], 3⟩ :: bs0 c bacc bm X : List Rw) = bs5 at E gb
 have m5 : ∀ q, q ∈ bs5 ↔ (q = ⟨bf, #[.func (.func 98) #[] #[pt ba, pt bm, pt bi]], 1⟩ \/ q = ⟨bw, #[pt c.Wg], 234⟩ \/ q = ⟨ba, el X (i * 8), 52⟩ \/ q = ⟨bi, #[.int .i64 (i : Int)], 3⟩ \/ q ∈ bs0 c bacc bm X) := fun q => by
  rw [<- hbs]; simp only [List.mem_cons]
 have mf := (m5 _).2 (.inl rfl)
 have mw := (m5 _).2 (.inr (.inl rfl))
 have ma := (m5 _).2 (.inr (.inr (.inl rfl)))
 have mi := (m5 _).2 (.inr (.inr (.inr (.inl rfl))))
 have m0 : ∀ q ∈ bs0 c bacc bm X, q ∈ bs5 := fun q hq => (m5 _).2 (.inr (.inr (.inr (.inr hq))))
 repeat (first
  | refine gw_seq E ?_
  | refine gw_skip E ?_
  | refine gw_region_end E ?_
  | refine gw_region_1 E ?_
  | refine gw_region_2 E ?_
  | refine gw_region_7 E ?_
  | refine gw_true E rfl ?_
  | refine gw_block E ?_
  | refine gw_inLoop E ?_
  | refine gw_inBlock E ?_
  | refine gw_true E (by simp [Act.eval]; omega) ?_
  | (refine gw_reads E rfl rfl (by k_ne) (fun w hF => (run_load1 rfl rfl Tryz.sizeOf234 Tryz.isAgg234 (cell_of (hF.rows _ mw))).1) (fun w hF => d0_read0 I gb mw hF.rows (fun e he => ⟨0, by have he := mem_listed he; rw [(run_load1 rfl rfl Tryz.sizeOf234 Tryz.isAgg234 (cell_of (hF.rows _ mw))).2, Array.mem_singleton] at he; exact he⟩)) ?_; walk_nrm)
  | (refine gw_opk E rfl rfl (by k_ne) (fun w hF K hK => ?_); go_simp; refine hK _ (by simp [go_sem, *]) ?_; clear hK K hF w; try w_num))
 refine gw_call E rfl rfl (by k_ne) rfl Tryz.wgLib.f_add (nm_add Tryz.link) (c := body_add Tryz.link) rfl ?_
 refine gw_up E (n := 40) ?_ (by omega)
 walk_nrm
 rw [show (addFn Tryz.link).ntmps - 2 = 115 from rfl]
 have hXc : ∀ w w₁, (HR bs5 w /\ Low <= w.heap.size) -> R0 c w w₁ -> (HR bs5 w₁ /\ Low <= w₁.heap.size) := fun w w₁ h r =>
  ⟨fun q hq => (r.keep q.b (lt_of_heap (h.1 q hq)) (gb.wg q hq) (gb.cc q hq) (notB I (h.1 q hq) (gb.ty q hq))).trans (h.1 q hq), Nat.le_trans h.2 r.size⟩
 have ad := @addX _ Tryz.link c (by rw [I.P]; exact Tryz.wgLib) Low i (Spawns c r) (fun w => HR bs5 w /\ Low <= w.heap.size) hXc
 rw [I.P] at ad
 refine mono0 (fun w hF => ⟨⟨hF.rows, hF.low⟩, by rw [I.ty]; exact hF.live⟩) (ad (mT := 40) (fun w hX hl => ?_))
 rw [I.ty] at hl
 have hF0 : F0 c Low bs5 w := ⟨hX.1, hX.2, hl⟩
 clear ad hX hl
 revert w
 show GoW Tryz.prog true (R0 c) (D0 c Low) (AtGo c i (Spawns c r)) (F0 c Low bs5) 40 _
 walk_nrm
 repeat (first
  | refine gw_seq E ?_
  | refine gw_skip E ?_
  | refine gw_region_end E ?_
  | refine gw_region_1 E ?_
  | refine gw_region_2 E ?_
  | refine gw_region_7 E ?_
  | refine gw_true E rfl ?_
  | refine gw_block E ?_
  | refine gw_inLoop E ?_
  | refine gw_inBlock E ?_
  | refine gw_true E (by simp [Act.eval]; omega) ?_
  | (refine gw_opk E rfl rfl (by k_ne) (fun w hF K hK => ?_); go_simp; refine hK _ (by simp [go_sem, *]) ?_; clear hK K hF w; try w_num))
 refine gw_stop E (fun w hF => ?_)
 unfold Phase.AtGo
 rw [I.P]
 refine ⟨rfl, _, _, stepG_go_clo rfl rfl (by k_ne) rfl rfl, rfl, fun hp => ?_, spawns_of ?_⟩
 ·rw [<- I.P]
  have hlo := hF.low
  have bx : ∀ q ∈ bs5, c.base <= q.b -> Box c w.heap.size q.b := fun q hq hb => ⟨hb, lt_of_heap (hF.rows q hq), gb.wg q hq, gb.cc q hq⟩
  have hbase := L.ba
  have mm := m0 ⟨bm, #[sl c.C c.n], 122⟩ (by simp [bs0])
  refine works I (bm := bm) (bi := bi) (ba := ba) (bw := bw) (bf := bf) ⟨bx _ mm A.bmB, bx _ mi (by show c.base <= bi; omega), bx _ ma (by show c.base <= ba; omega), bx _ mw (by show c.base <= bw; omega), bx _ mf (by show c.base <= bf; omega)⟩ (by omega) (A.short i (by omega)) (A.out i (by omega)) ⟨hF.rows _ mm, hF.rows _ mi, ⟨_, hF.rows _ ma, ?_⟩, hF.rows _ mw, hF.rows _ mf, hF.live, hp⟩
  rw [el_at _ _ _ (by omega) (by omega)]
  exact A.cod i (by omega)
 ·have L' : Lo c w.heap.size := ⟨Nat.lt_of_lt_of_le L.wg hF.low, Nat.lt_of_lt_of_le L.cc hF.low, Nat.le_trans L.ba hF.low⟩
  replace E := env0 (Low := w.heap.size) I g0
  have hw1 : IntKind.i64.wrap ((i : Int) + 1) = (i : Int) + 1 := by have := A.n31; rw [IntKind.wrap_i64]; omega
  refine ⟨140, ?_⟩
  rw [I.P]
  suffices GoW Tryz.prog true (R0 c) (D0 c w.heap.size) (StopOf c r w.heap.size) (F0 c w.heap.size (bs0 c bacc bm X)) 140 _ from this w ⟨fun q hq => hF.rows q (m0 q hq), Nat.le_refl _, hF.live⟩
  walk_nrm
  repeat (first
   | refine gw_seq E ?_
   | refine gw_skip E ?_
   | refine gw_region_end E ?_
   | refine gw_region_1 E ?_
   | refine gw_region_2 E ?_
   | refine gw_region_7 E ?_
   | refine gw_true E rfl ?_
   | refine gw_block E ?_
   | refine gw_inLoop E ?_
   | refine gw_inBlock E ?_
   | refine gw_true E (by simp [Act.eval]; omega) ?_
   | (refine gw_end E ?_)
   | (refine gw_leave0 E rfl rfl Tryz.func97 rfl ?_; walk_nrm)
   | (refine gw_opk E rfl rfl (by k_ne) (fun w hF K hK => ?_); go_simp; refine hK _ (by simp [go_sem, *]) ?_; clear hK K hF w; try w_num))
  rw [show (i : Int) + 1 = ((i + 1 : Nat) : Int) by omega]
  exact gw_up E (hN w.heap.size _ _ _ _ _ _ _ _ _ _ _ _ _ _ _ _ L') (by omega)
end
end Go.Mark
set_option maxRecDepth 100000
set_option maxHeartbeats 8000000
namespace Go.Phase
open Go.Conc Go.Walk Go.RowKit Go.Conc.Lib Go.ConcR.Gen Go.ConcN.Gen Go.Lift
open Go.ConcN (WgLive)
open Go.ConcR (KK WgAt stA smA rd wr mk Payload)
variable [Payload] {L : WgLink}
theorem waitX {c : Cfg} (H : WgLib c.P L) {Low : Nat} {X : World -> Prop} (hX : ∀ w w₁, X w -> R0 c w w₁ -> X w₁) {b₀ : Frame} {a₀ : Act} {ops₀ : Array Oper} {i₀ : Nat} {rest₀ : List Nat} {k₀ : List Item} {cs : List Frame} (hty : c.ty = L.tWg)
  (hAnch : ∀ g w, AnchWN L X c.Wg (b₀.at a₀ (.inRegion ops₀ (i₀ :: rest₀) :: k₀)) cs g w -> c.Anch Low g w)
  (hThen : ∀ g w, X w -> WgLive c.ty c.Wg w -> Goes c.P true AtRel DNil (fun g' _ => g' = G (b₀.at (a₀.put ((ops₀[i₀]?).bind (·.dst)) (.tuple #[])) (.inRegion ops₀ rest₀ :: k₀)) cs) 40 g w -> c.Then g w) (g : Goroutine) (w : World) (h : AnchWN L X c.Wg (b₀.at a₀ (.inRegion ops₀ (i₀ :: rest₀) :: k₀)) cs g w) :
  ∃ m, Goes c.P true (R0 c) (D0 c Low) (AtW1 c Low) m g w := by
 lib_facts
 have E := envX c Low hX
 obtain ⟨T, rfl, hT84, t0, hF0⟩ := h
 rw [<- hty] at hF0
 obtain ⟨v0, v1, v2, v3, v4, v5, v6, v7, v8, v9, v10, v11, v12, v13, v14, v15, v16, v17, v18, v19, v20, v21, v22, v23, v24, v25, v26, v27, v28, v29, v30, v31, v32, v33, v34, v35, v36, v37, v38, v39, v40, v41, v42, v43, v44, v45, v46, v47, v48, v49, v50, v51, v52, v53, v54, v55, v56, v57, v58, v59, v60, v61, v62, v63, v64, v65, v66, v67, v68, v69, v70, v71, v72, v73, v74, v75, v76, v77, v78, v79, v80, v81, v82, v83, rfl⟩ := array84 T hT84
 simp only [List.getElem?_toArray, List.getElem?_cons_zero, Option.some.injEq] at t0
 subst t0
 clear hT84
 refine ⟨60, ?_⟩
 revert hF0
 generalize w = w
 revert w
 show GoW c.P true (R0 c) (D0 c Low) (AtW1 c Low) (fun w => X w /\ WgLive c.ty c.Wg w) 60 _
 simp only [L7, body_wait, waitFn, Option.getD_some]
 repeat (first
  | refine gw_seq E ?_
  | refine gw_skip E ?_
  | refine gw_region_end E ?_
  | refine gw_region_1 E ?_
  | refine gw_region_2 E ?_
  | refine gw_region_3 E ?_
  | refine gw_region_4 E ?_
  | refine gw_region_5 E ?_
  | refine gw_region_6 E ?_
  | refine gw_region_7 E ?_
  | refine gw_region_11 E ?_
  | refine gw_true E rfl ?_
  | refine gw_false E rfl ?_
  | (refine gw_unwanted E rfl rfl ?_; walk_nrm)
  | refine gw_block E ?_
  | refine gw_inLoop E ?_
  | refine gw_inBlock E ?_
  | refine gw_ret E ?_
  | (refine gw_call E rfl rfl (by k_ne) rfl H.f_uLoad (nm_uLoad L) rfl ?_; walk_nrmf uLoadFn)
  | (refine gw_opk E rfl rfl (by k_ne) (fun w hF K hK => ?_); go_simp; refine hK _ (by simp [go_sem, *]) ?_; clear hK K hF w; try w_num))
 refine gw_stop E (fun w hF => ⟨rfl, fun v hv hw => ?_⟩)
 rcases Nat.eq_zero_or_pos v with rfl | hvp
 ·replace hw : WgAt c.ty c.Wg w 0 0 := by simpa using hw
  refine ⟨_, stepG_load_atomic (v := 0) rfl rfl (by k_ne) rfl H.f_loadU64 (x_loadU64_n L) (x_loadU64_b L) (x_loadU64_x L) .u64 (x_loadU64_f L) rfl hw.cellSt, fun _ => ⟨80, ?_⟩, fun h => absurd rfl h⟩
  clear hw hv
  revert w
  show GoW c.P true (R0 c) (D0 c Low) (AtKe c Low) (fun w => X w /\ WgLive c.ty c.Wg w) 80 _
  walk_nrm
  repeat (first
   | refine gw_seq E ?_
   | refine gw_skip E ?_
   | refine gw_region_end E ?_
   | refine gw_region_1 E ?_
   | refine gw_region_2 E ?_
   | refine gw_region_3 E ?_
   | refine gw_region_4 E ?_
   | refine gw_region_5 E ?_
   | refine gw_region_6 E ?_
   | refine gw_region_7 E ?_
   | refine gw_region_11 E ?_
   | refine gw_true E rfl ?_
   | refine gw_false E rfl ?_
   | (refine gw_unwanted E rfl rfl ?_; walk_nrm)
   | refine gw_block E ?_
   | refine gw_inLoop E ?_
   | refine gw_inBlock E ?_
   | refine gw_ret E ?_
   | (refine gw_leave1 E rfl rfl H.f_uLoad rfl ?_; walk_nrm)
   | (refine gw_opk E rfl rfl (by k_ne) (fun w hF K hK => ?_); go_simp; refine hK _ (by simp [go_sem, *]) ?_; clear hK K hF w; try w_num))
  refine gw_stop E (fun w hF => ?_)
  refine ⟨rfl, _, stepG_mark0 .enable (by simp) rfl rfl (by k_ne) rfl H.f_enable (x_enable_n L) (x_enable_b L) (x_enable_x L) (x_enable_f L), 30, ?_⟩
  revert w
  show GoW c.P true (R0 c) (D0 c Low) (AtAcq c) (fun w => X w /\ WgLive c.ty c.Wg w) 30 _
  walk_nrm
  repeat (first
   | refine gw_seq E ?_
   | refine gw_skip E ?_
   | refine gw_region_end E ?_
   | refine gw_region_1 E ?_
   | refine gw_region_2 E ?_
   | refine gw_region_3 E ?_
   | refine gw_region_4 E ?_
   | refine gw_region_5 E ?_
   | refine gw_region_6 E ?_
   | refine gw_region_7 E ?_
   | refine gw_region_11 E ?_
   | refine gw_true E rfl ?_
   | refine gw_false E rfl ?_
   | (refine gw_unwanted E rfl rfl ?_; walk_nrm)
   | refine gw_block E ?_
   | refine gw_inLoop E ?_
   | refine gw_inBlock E ?_
   | refine gw_ret E ?_
   | (refine gw_conv E rfl rfl (by k_ne) rfl rfl H.underlying_tWgP H.underlying_tUP H.room_tWg (fun w hF => live0 hF.2) ?_; walk_nrm)
   | (refine gw_opk E rfl rfl (by k_ne) (fun w hF K hK => ?_); go_simp; refine hK _ (by simp [go_sem, *]) ?_; clear hK K hF w; try w_num))
  refine gw_stop E (fun w hF => ?_)
  refine ⟨rfl, _, stepG_markAt .acquire (by simp) rfl rfl (by k_ne) rfl H.f_acquire (x_acquire_n L) (x_acquire_b L) (x_acquire_x L) (x_acquire_f L) (by simp [Act.eval, stA]), hThen _ _ hF.1 hF.2 ?_⟩
  revert w
  show GoW c.P true AtRel DNil _ (fun w => X w /\ WgLive c.ty c.Wg w) 40 _
  replace E := envA c hX
  walk_nrm
  repeat (first
   | refine gw_seq E ?_
   | refine gw_skip E ?_
   | refine gw_region_end E ?_
   | refine gw_region_1 E ?_
   | refine gw_region_2 E ?_
   | refine gw_region_3 E ?_
   | refine gw_region_4 E ?_
   | refine gw_region_5 E ?_
   | refine gw_region_6 E ?_
   | refine gw_region_7 E ?_
   | refine gw_region_11 E ?_
   | refine gw_true E rfl ?_
   | refine gw_false E rfl ?_
   | (refine gw_unwanted E rfl rfl ?_; walk_nrm)
   | refine gw_block E ?_
   | refine gw_inLoop E ?_
   | refine gw_inBlock E ?_
   | refine gw_ret E ?_
   | (refine gw_opk E rfl rfl (by k_ne) (fun w hF K hK => ?_); go_simp; refine hK _ (by simp [go_sem, *]) ?_; clear hK K hF w; try w_num))
  refine gw_leave0 E rfl rfl H.f_wait rfl ?_
  exact gw_stop E (fun w _ => rfl)
 ·obtain ⟨S, hS⟩ : ∃ S : Int, (v : Int) * KK = S := ⟨_, rfl⟩
  have a1 : S / 4294967296 = (v : Int) := by rw [<- hS]; simp only [KK]; omega
  have b1 : bits .and .u64 S 2147483648 = 0 := by rw [<- hS]; have := Go.ConcN.st_flag v 0 (by omega) (by omega); simpa [KK] using this
  have b2 : bits .and .u64 S 2147483647 = 0 := by rw [<- hS]; have := Go.ConcN.st_waiters v 0 (by omega) (by omega); simpa [KK] using this
  have c1 : IntKind.i32.wrap (v : Int) = (v : Int) := by rw [IntKind.wrap_i32]; omega
  have w1 : IntKind.u64.wrap (S + 1) = S + 1 := by rw [IntKind.wrap_u64, <- hS]; simp only [KK]; omega
  have q3 : decide ((v : Int) < 0) = false := decide_eq_false (by omega)
  have q4 : decide (0 < (v : Int)) = true := decide_eq_true (by omega)
  have q5 : ((v : Int) == 0) = false := by simp; omega
  have q6 : decide ((v : Int) = 0) = false := decide_eq_false (by omega)
  rw [hS] at hw
  refine ⟨_, stepG_load_atomic (v := S) rfl rfl (by k_ne) rfl H.f_loadU64 (x_loadU64_n L) (x_loadU64_b L) (x_loadU64_x L) .u64 (x_loadU64_f L) rfl hw.cellSt, fun h0 => absurd h0 (by omega), fun _ => ⟨90, ?_⟩⟩
  clear hw
  revert w
  show GoW c.P true (R0 c) (D0 c Low) (AtW2 c Low v) (fun w => X w /\ WgLive c.ty c.Wg w) 90 _
  walk_nrm
  repeat (first
   | refine gw_seq E ?_
   | refine gw_skip E ?_
   | refine gw_region_end E ?_
   | refine gw_region_1 E ?_
   | refine gw_region_2 E ?_
   | refine gw_region_3 E ?_
   | refine gw_region_4 E ?_
   | refine gw_region_5 E ?_
   | refine gw_region_6 E ?_
   | refine gw_region_7 E ?_
   | refine gw_region_11 E ?_
   | refine gw_true E rfl ?_
   | refine gw_false E rfl ?_
   | (refine gw_unwanted E rfl rfl ?_; walk_nrm)
   | refine gw_block E ?_
   | refine gw_inLoop E ?_
   | refine gw_inBlock E ?_
   | refine gw_ret E ?_
   | refine gw_true E (by simp [Act.eval]; omega) ?_
   | refine gw_false E (by simp [Act.eval]; omega) ?_
   | (refine gw_call E rfl rfl (by k_ne) rfl H.f_uCas (nm_uCas L) rfl ?_; walk_nrmf uCasFn)
   | (refine gw_leave1 E rfl rfl H.f_uLoad rfl ?_; walk_nrm)
   | (refine gw_opk E rfl rfl (by k_ne) (fun w hF K hK => ?_); go_simp; refine hK _ (by simp [go_sem, *]) ?_; clear hK K hF w; try w_num))
  refine gw_stop E (fun w hF => ⟨rfl, fun v' hv' hw => ⟨fun e => ?_, fun e => ?_⟩⟩)
  ·subst e
   rw [hS] at hw ⊢
   refine ⟨_, (stepG_cas_hit (v := S) (n := S + 1) rfl rfl (by k_ne) rfl H.f_casU64 (x_casU64_n L) (x_casU64_b L) (x_casU64_x L) .u64 (x_casU64_f L) rfl rfl rfl hw.cellSt (hw.thaw 0)).trans (by rfl), 90, ?_⟩
   have hl : WgLive c.ty c.Wg (w.setCell (stA c.Wg) (.int .u64 (S + 1))) := ⟨_, _, hw.setSt _⟩
   have hF2 : X (w.setCell (stA c.Wg) (.int .u64 (S + 1))) /\ WgLive c.ty c.Wg (w.setCell (stA c.Wg) (.int .u64 (S + 1))) := ⟨hX _ _ hF.1 (r0_aside (aside_setCell w (stA c.Wg) _) hl), hl⟩
   generalize w.setCell (stA c.Wg) (.int .u64 (S + 1)) = w' at hF2 ⊢
   clear hw hF hl w
   revert w'
   show GoW c.P true (R0 c) (D0 c Low) (AtW3 c Low) (fun w => X w /\ WgLive c.ty c.Wg w) 90 _
   walk_nrm
   repeat (first
    | refine gw_seq E ?_
    | refine gw_skip E ?_
    | refine gw_region_end E ?_
    | refine gw_region_1 E ?_
    | refine gw_region_2 E ?_
    | refine gw_region_3 E ?_
    | refine gw_region_4 E ?_
    | refine gw_region_5 E ?_
    | refine gw_region_6 E ?_
    | refine gw_region_7 E ?_
    | refine gw_region_11 E ?_
    | refine gw_true E rfl ?_
    | refine gw_false E rfl ?_
    | (refine gw_unwanted E rfl rfl ?_; walk_nrm)
    | refine gw_block E ?_
    | refine gw_inLoop E ?_
    | refine gw_inBlock E ?_
    | refine gw_ret E ?_
    | (refine gw_leave1 E rfl rfl H.f_uCas rfl ?_; walk_nrm)
    | (refine gw_conv E rfl rfl (by k_ne) rfl rfl H.underlying_tPU32 H.underlying_tUP H.room_tU32 (fun w hF => live1 hF.2) ?_; walk_nrm)
    | (refine gw_ev E rfl (fun w _ => stepG_markAt .write (by simp) rfl rfl (by k_ne) rfl H.f_raceWrite (x_raceWrite_n L) (x_raceWrite_b L) (x_raceWrite_x L) (x_raceWrite_f L) (ad := ⟨c.Wg, 1, none⟩) (by simp [Act.eval])) (fun w _ => d0_write c Low w _ rfl) ?_; walk_nrm)
    | (refine gw_opk E rfl rfl (by k_ne) (fun w hF K hK => ?_); go_simp; refine hK _ (by simp [go_sem, *]) ?_; clear hK K hF w; try w_num))
   refine gw_stop E (fun w hF => ?_)
   refine ⟨rfl, rfl, fun ⟨st, hw⟩ => stepG_semacquire_wait rfl rfl rfl H.f_semacquire (x_semacquire_n L) (x_semacquire_b L) (x_semacquire_x L) (x_semacquire_f L) (by simp [Act.eval, smA]) hw.cellSm, fun hf => ?_⟩
   refine ⟨_, (stepG_semacquire (n := 1) rfl rfl (by k_ne) rfl H.f_semacquire (x_semacquire_n L) (x_semacquire_b L) (x_semacquire_x L) (x_semacquire_f L) (by simp [Act.eval, smA]) hf.cellSm (by k_ne) (hf.thaw 1)).trans (by rfl), 60, ?_⟩
   have hl : WgLive c.ty c.Wg (w.setCell (smA c.Wg) (.int .u32 0)) := ⟨_, _, hf.setSm 0⟩
   have hF2 : X (w.setCell (smA c.Wg) (.int .u32 0)) /\ WgLive c.ty c.Wg (w.setCell (smA c.Wg) (.int .u32 0)) := ⟨hX _ _ hF.1 (r0_aside (aside_setCell w (smA c.Wg) _) hl), hl⟩
   generalize w.setCell (smA c.Wg) (.int .u32 0) = w' at hF2 ⊢
   clear hf hF hl w
   revert w'
   show GoW c.P true (R0 c) (D0 c Low) (AtW4 c Low) (fun w => X w /\ WgLive c.ty c.Wg w) 60 _
   walk_nrm
   repeat (first
    | refine gw_seq E ?_
    | refine gw_skip E ?_
    | refine gw_region_end E ?_
    | refine gw_region_1 E ?_
    | refine gw_region_2 E ?_
    | refine gw_region_3 E ?_
    | refine gw_region_4 E ?_
    | refine gw_region_5 E ?_
    | refine gw_region_6 E ?_
    | refine gw_region_7 E ?_
    | refine gw_region_11 E ?_
    | refine gw_true E rfl ?_
    | refine gw_false E rfl ?_
    | (refine gw_unwanted E rfl rfl ?_; walk_nrm)
    | refine gw_block E ?_
    | refine gw_inLoop E ?_
    | refine gw_inBlock E ?_
    | refine gw_ret E ?_
    | (refine gw_call E rfl rfl (by k_ne) rfl H.f_uLoad (nm_uLoad L) rfl ?_; walk_nrmf uLoadFn)
    | (refine gw_opk E rfl rfl (by k_ne) (fun w hF K hK => ?_); go_simp; refine hK _ (by simp [go_sem, *]) ?_; clear hK K hF w; try w_num))
   refine gw_stop E (fun w hF => ⟨rfl, fun hw => ⟨_, stepG_load_atomic (v := 0) rfl rfl (by k_ne) rfl H.f_loadU64 (x_loadU64_n L) (x_loadU64_b L) (x_loadU64_x L) .u64 (x_loadU64_f L) rfl hw.cellSt, 60, ?_⟩⟩)
   clear hw
   revert w
   show GoW c.P true (R0 c) (D0 c Low) (AtKe c Low) (fun w => X w /\ WgLive c.ty c.Wg w) 60 _
   walk_nrm
   repeat (first
    | refine gw_seq E ?_
    | refine gw_skip E ?_
    | refine gw_region_end E ?_
    | refine gw_region_1 E ?_
    | refine gw_region_2 E ?_
    | refine gw_region_3 E ?_
    | refine gw_region_4 E ?_
    | refine gw_region_5 E ?_
    | refine gw_region_6 E ?_
    | refine gw_region_7 E ?_
    | refine gw_region_11 E ?_
    | refine gw_true E rfl ?_
    | refine gw_false E rfl ?_
    | (refine gw_unwanted E rfl rfl ?_; walk_nrm)
    | refine gw_block E ?_
    | refine gw_inLoop E ?_
    | refine gw_inBlock E ?_
    | refine gw_ret E ?_
    | (refine gw_leave1 E rfl rfl H.f_uLoad rfl ?_; walk_nrm)
    | (refine gw_opk E rfl rfl (by k_ne) (fun w hF K hK => ?_); go_simp; refine hK _ (by simp [go_sem, *]) ?_; clear hK K hF w; try w_num))
   refine gw_stop E (fun w hF => ?_)
   refine ⟨rfl, _, stepG_mark0 .enable (by simp) rfl rfl (by k_ne) rfl H.f_enable (x_enable_n L) (x_enable_b L) (x_enable_x L) (x_enable_f L), 30, ?_⟩
   revert w
   show GoW c.P true (R0 c) (D0 c Low) (AtAcq c) (fun w => X w /\ WgLive c.ty c.Wg w) 30 _
   walk_nrm
   repeat (first
    | refine gw_seq E ?_
    | refine gw_skip E ?_
    | refine gw_region_end E ?_
    | refine gw_region_1 E ?_
    | refine gw_region_2 E ?_
    | refine gw_region_3 E ?_
    | refine gw_region_4 E ?_
    | refine gw_region_5 E ?_
    | refine gw_region_6 E ?_
    | refine gw_region_7 E ?_
    | refine gw_region_11 E ?_
    | refine gw_true E rfl ?_
    | refine gw_false E rfl ?_
    | (refine gw_unwanted E rfl rfl ?_; walk_nrm)
    | refine gw_block E ?_
    | refine gw_inLoop E ?_
    | refine gw_inBlock E ?_
    | refine gw_ret E ?_
    | (refine gw_conv E rfl rfl (by k_ne) rfl rfl H.underlying_tWgP H.underlying_tUP H.room_tWg (fun w hF => live0 hF.2) ?_; walk_nrm)
    | (refine gw_opk E rfl rfl (by k_ne) (fun w hF K hK => ?_); go_simp; refine hK _ (by simp [go_sem, *]) ?_; clear hK K hF w; try w_num))
   refine gw_stop E (fun w hF => ?_)
   refine ⟨rfl, _, stepG_markAt .acquire (by simp) rfl rfl (by k_ne) rfl H.f_acquire (x_acquire_n L) (x_acquire_b L) (x_acquire_x L) (x_acquire_f L) (by simp [Act.eval, stA]), hThen _ _ hF.1 hF.2 ?_⟩
   revert w
   show GoW c.P true AtRel DNil _ (fun w => X w /\ WgLive c.ty c.Wg w) 40 _
   replace E := envA c hX
   walk_nrm
   repeat (first
    | refine gw_seq E ?_
    | refine gw_skip E ?_
    | refine gw_region_end E ?_
    | refine gw_region_1 E ?_
    | refine gw_region_2 E ?_
    | refine gw_region_3 E ?_
    | refine gw_region_4 E ?_
    | refine gw_region_5 E ?_
    | refine gw_region_6 E ?_
    | refine gw_region_7 E ?_
    | refine gw_region_11 E ?_
    | refine gw_true E rfl ?_
    | refine gw_false E rfl ?_
    | (refine gw_unwanted E rfl rfl ?_; walk_nrm)
    | refine gw_block E ?_
    | refine gw_inLoop E ?_
    | refine gw_inBlock E ?_
    | refine gw_ret E ?_
    | (refine gw_opk E rfl rfl (by k_ne) (fun w hF K hK => ?_); go_simp; refine hK _ (by simp [go_sem, *]) ?_; clear hK K hF w; try w_num))
   refine gw_leave0 E rfl rfl H.f_wait rfl ?_
   exact gw_stop E (fun w _ => rfl)
  ·refine ⟨_, stepG_cas_miss (v := (v' : Int) * KK) (old := S) (n := S + 1) rfl rfl (by k_ne) rfl H.f_casU64 (x_casU64_n L) (x_casU64_b L) (x_casU64_x L) .u64 (x_casU64_f L) rfl rfl rfl hw.cellSt (hw.thaw 0) (by rw [<- hS]; simp only [KK]; omega), 60, ?_⟩
   clear hw hv' e
   revert w
   show GoW c.P true (R0 c) (D0 c Low) (c.Anch Low) (fun w => X w /\ WgLive c.ty c.Wg w) 60 _
   walk_nrm
   repeat (first
    | refine gw_seq E ?_
    | refine gw_skip E ?_
    | refine gw_region_end E ?_
    | refine gw_region_1 E ?_
    | refine gw_region_2 E ?_
    | refine gw_region_3 E ?_
    | refine gw_region_4 E ?_
    | refine gw_region_5 E ?_
    | refine gw_region_6 E ?_
    | refine gw_region_7 E ?_
    | refine gw_region_11 E ?_
    | refine gw_true E rfl ?_
    | refine gw_false E rfl ?_
    | (refine gw_unwanted E rfl rfl ?_; walk_nrm)
    | refine gw_block E ?_
     | refine gw_inBlock E ?_
    | refine gw_ret E ?_
    | (refine gw_leave1 E rfl rfl H.f_uCas rfl ?_; walk_nrm)
    | (refine gw_opk E rfl rfl (by k_ne) (fun w hF K hK => ?_); go_simp; refine hK _ (by simp [go_sem, *]) ?_; clear hK K hF w; try w_num))
   refine gw_inLoop E ?_
   exact gw_stop E (fun w hF => hAnch _ _ ⟨_, rfl, by simp, by simp, by rw [<- hty]; exact hF⟩)
end Go.Phase
