import Derived.Test.YtbephahokhnccaaGreatDoorXC1toD3
set_option linter.unusedSectionVars false
set_option maxRecDepth 100000
set_option maxHeartbeats 4000000
namespace Go.Mark
open Go.Conc Go.Walk Go.Phase Go.RowKit Go.Conc.Lib Go.ConcR.Gen Go.ConcN.Gen Go.Lift Go.Proofs
open Go.ConcN (WgLive Has RW DWs AtR0 PayAt)
open Go.ConcR (KK WgAt stA smA rd wr mk Payload)
instance : Payload := ⟨132⟩
abbrev pt (b : Nat) : Value := .pointer (some ⟨b, 0, none⟩)
noncomputable def bot : Frame := { (default : Frame) with fn := Tryz.prog.funcs.size, defers := [], mode := .panicking [goexitEntry] }
structure IsC (c : Cfg) : Prop where
 P : c.P = Tryz.prog
 ty : c.ty = 189
 tb : c.tb = 4
 geo : Geo c
structure Box (c : Cfg) (Low b : Nat) : Prop where
 lo : c.base <= b
 hi : b < Low
 wg : b ≠ c.Wg
 cc : b ≠ c.C
theorem cell_of {w : World} {b : Nat} {v : Value} {e : TypeId} {f : Nat × Nat} (h : w.heap[b]? = some (.cells #[v] e f)) : w.cell? ⟨b, 0, none⟩ = some v := by simp [World.cell?, h]
theorem notB {c : Cfg} (I : IsC c) {w : World} {b : Nat} {x : Array Value} {e : TypeId} {f : Nat × Nat} (h : w.heap[b]? = some (.cells x e f)) (he : e ≠ 4) : ¬ IsB c w b := by
 rintro ⟨x', f', h'⟩
 rw [h] at h'
 simp only [Option.some.injEq, Obj.cells.injEq] at h'
 rw [I.tb] at h'
 exact he h'.2.1
theorem rx_box {c : Cfg} (I : IsC c) {Low i b : Nat} {own : Nat -> Prop} {w w₁ : World} {x : Array Value} {e : TypeId} {f : Nat × Nat} (B : Box c Low b) (r : RX c Low i own w w₁) (h : w.heap[b]? = some (.cells x e f)) (he : e ≠ 4) : w₁.heap[b]? = some (.cells x e f) :=
 (r.keep b B.hi B.wg B.cc (notB I h he)).trans h
theorem evr_box {c : Cfg} (I : IsC c) {Low b k : Nat} {w : World} {x : Array Value} {e : TypeId} {f : Nat × Nat} (B : Box c Low b) (h : w.heap[b]? = some (.cells x e f)) (he : e ≠ 4) : EvR c Low w ⟨.cell ⟨b, k, none⟩, false, false⟩ :=
 .inl ⟨⟨b, k, none⟩, rfl, B.lo, B.hi, B.wg, B.cc, notB I h he⟩
theorem tidy_set {c : Cfg} {w : World} (bb off : Nat) (v : Value) (h : Tidy c w) : Tidy c (w.setCell ⟨bb, off, none⟩ v) := fun b o hb ho => by
 by_cases e : b = bb
 ·subst e
  cases hw : w.heap[b]? with
  | none =>
   have : (w.setCell ⟨b, off, none⟩ v).heap[b]? = none := by
    rw [Array.getElem?_eq_none_iff] at hw ⊢
    rw [(aside_setCell w ⟨b, off, none⟩ v).size]
    exact hw
   rw [this] at ho
   cases ho
  | some o' =>
   obtain ⟨x, e, rfl⟩ := h _ _ hb hw
   rw [setCell_eq_setRow w b off x e (0, 0) v hw, setRow_heap w b _ _ _ _ hw] at ho
   cases ho
   exact ⟨_, _, rfl⟩
 ·rw [(aside_setCell w ⟨bb, off, none⟩ v).block b e] at ho
  exact h b o hb ho
section
variable {c : Cfg} (I : IsC c) {Low i b bw : Nat} {val : Value}
theorem db_nil (w : World) : DB c Low b i w w #[] := ⟨rfl, fun _ _ _ => rfl, id, id, fun _ _ => rfl, (fun e he => by simp at he), id, rfl, rfl⟩
theorem db_read {w : World} {es : Array Event} (h : ∀ e ∈ es, EvR c Low w e) : DB c Low b i w w es := ⟨rfl, fun _ _ _ => rfl, id, id, fun _ _ => rfl, fun e he => .inl (h e he), id, rfl, rfl⟩
structure FT (c : Cfg) (i b bw : Nat) (val : Value) (w : World) : Prop where
 live : WgLive 189 c.Wg w
 has : Has c.C i val w
 wv : w.heap[bw]? = some (.cells #[pt c.Wg] 234)
 out : c.Out i b w
theorem FT.rely (I : IsC c) (B : Box c Low bw) {w w₁ : World} (h : FT c i b bw val w) (r : RX c Low i (· = b) w w₁) : FT c i b bw val w₁ :=
 ⟨by have := r.live; rw [I.ty] at this; exact this h.live, r.cell.trans h.has, rx_box I B r h.wv (by decide), I.geo.out i b _ _ (r.mine b rfl) r.cell h.out⟩
theorem envT (I : IsC c) (B : Box c Low bw) : Env (RX c Low i (· = b)) (DB c Low b i) (FT c i b bw val) := ⟨fun _ _ h r => h.rely I B r, fun w => db_nil w⟩
theorem add_tail (I : IsC c) (B : Box c Low bw) {b₀ : Frame} {a₀ : Act} {ops₀ : Array Oper} {i₀ : Nat} {rest₀ : List Nat} {k₀ : List Item} {cs : List Frame} {qt : Nat}
  (hT : QuitsD Tryz.prog qt 0 (G (b₀.at (a₀.put ((ops₀[i₀]?).bind (·.dst)) (.tuple #[])) (.inRegion ops₀ rest₀ :: k₀)) cs)) :
  GoW Tryz.prog false (RX c Low i (· = b)) (DB c Low b i) (AtOut c i b) (FT c i b bw val) 60 (G ((base 143).at ⟨#[pt c.Wg, .int .i64 (-1)] ++ Array.replicate 115 undef, []⟩ [.code (body_add Tryz.link)]) (b₀.at a₀ (.inRegion ops₀ (i₀ :: rest₀) :: k₀) :: cs)) := by
 obtain ⟨gs, hp, hR0⟩ := addNeg_atR0 Tryz.wgLib (Wg := c.Wg) (C := c.C) (n := c.n) (k := i + 1) (val := val) hT
 intro w hF
 have hcl0 : ∀ w w₁, (WgLive 189 c.Wg w /\ Has c.C (i + 1 - 1) val w) -> RX c Low i (· = b) w w₁ -> (WgLive 189 c.Wg w₁ /\ Has c.C (i + 1 - 1) val w₁) := fun w w₁ h r =>
  ⟨by have := r.live; rw [I.ty] at this; exact this h.1, r.cell.trans h.2⟩
 refine goes_path (F := FT c i b bw val) (fun _ _ h r => h.rely I B r) (fun w => db_nil w) (m := 0) (fun w hF => ?_) (fun _ _ _ h k => h.trans k) (fun w => RX.refl w) 60 _ w hF (hp _ hcl0 w ⟨hF.live, hF.has⟩)
 refine Goes.stop fun w₁ h₁ => ?_
 have hF1 := hF.rely I B h₁
 refine ⟨⟨val, ?_⟩, hF1.out⟩
 rw [I.P, I.ty]
 exact hR0 w₁ ⟨hF1.live, hF1.has⟩
theorem quitsTail (T : Array Value) : QuitsD Tryz.prog 2 0 (G { (baseD 144).at ⟨T, []⟩ [] with mode := .returning } [bot]) := by
 refine QuitsD.ctl (g' := G bot []) rfl (fun w => ?_) ?_
 ·simp [G, stepG, unwind, doReturn, results, Frame.at, baseD, bot, Tryz.func144, Tryz.f144, seen, GStep.after, goexitEntry]
 refine QuitsD.ctl (g' := { G bot [] with status := .finished }) rfl (fun w => ?_) ⟨rfl, rfl⟩
 simp [G, stepG, unwind, bot, goexitEntry, Frame.catches]
 rfl
theorem put_defers (T : Array Value) (ds : List Deferred) (x : Option Tmp) (v : Value) : (Act.put ⟨T, ds⟩ x v).defers = ds := by cases x <;> rfl
theorem ev_eq_nil (w : World) (d : Nat) : (Op.equalIn (d + 1) 20 .nilIface .nilIface).events Tryz.prog w #[] = #[] := by
 unfold Op.equalIn
 simp [go_sem]
theorem ev_neq_nil (w : World) : (binOp .neq 20 .nilIface .nilIface).events Tryz.prog w #[] = #[] := by
 simp [binOp, Op.equal, go_sem]
 exact ev_eq_nil w 9999
theorem nm48 : (Tryz.f145.name == "runtime.NumGoroutine") = false := by kernel_rfl
theorem nm37 : (Tryz.f98.name == "runtime.NumGoroutine") = false := by kernel_rfl
theorem nm38 : (Tryz.f99.name == "runtime.NumGoroutine") = false := by kernel_rfl
theorem nm50 : (Tryz.f147.name == "runtime.NumGoroutine") = false := by kernel_rfl
theorem tail (I : IsC c) (B : Box c Low bw) {T37 T47 : Array Value} {ops : Array Oper} {i₀ : Nat} :
  GoW Tryz.prog false (RX c Low i (· = b)) (DB c Low b i) (AtOut c i b) (FT c i b bw val) 120 (G ((base 98).at ⟨T37, []⟩ []) [(baseD 144).at ⟨T47, [dclo 145 #[pt bw]]⟩ [.inRegion ops [i₀]], bot]) := by
 have E := envT (b := b) (i := i) (val := val) I B
 have hnil := ev_neq_nil
 have dbox : ∀ w, FT c i b bw val w -> ∀ {fn a o}, (execOp a.eval o).events Tryz.prog w #[] = #[⟨.cell ⟨bw, 0, none⟩, false, false⟩] -> DB c Low b i w w (listed Tryz.prog fn a o w) := fun w hF fn a o he =>
  db_read fun e hm => by
   have hm := mem_listed hm
   rw [he, Array.mem_singleton] at hm
   subst hm
   exact evr_box I B hF.wv (by decide)
 refine gw_end E ?_
 refine gw_leave0 E rfl rfl Tryz.func98 rfl ?_
 refine gw_region_end E ?_
 refine gw_end E ?_
 refine gw_unwind_clo E (put_defers _ _ _ _) Tryz.func145 nm48 rfl ?_
 generalize (Act.put ⟨T47, [dclo 145 #[pt bw]]⟩ ((ops[i₀]?).bind (·.dst)) (.tuple #[])).tmps = T
 simp only [Tryz.f145]
 walk_nrm
 repeat (first
  | refine gw_seq E ?_
  | refine gw_skip E ?_
  | refine gw_region_end E ?_
  | refine gw_region_2 E ?_
  | refine gw_false E rfl ?_
  | refine gw_false E (by simp [Act.eval]; omega) ?_
  | (refine gw_recover E rfl rfl rfl rfl rfl ?_; walk_nrm)
  | (refine gw_reads E rfl rfl (by k_ne) (fun w hF => (run_load1 rfl rfl Tryz.sizeOf234 Tryz.isAgg234 (cell_of hF.wv)).1) (fun w hF => dbox w hF (run_load1 rfl rfl Tryz.sizeOf234 Tryz.isAgg234 (cell_of hF.wv)).2) ?_; walk_nrm)
  | (refine gw_call E rfl rfl (by k_ne) rfl Tryz.wgLib.f_done (nm_done Tryz.link) rfl ?_; walk_nrmf doneFn)
  | (refine gw_opk E rfl rfl (by k_ne) (fun w hF K hK => ?_); go_simp; refine hK _ (by simp [go_sem, *]) ?_; clear hK K hF w; try w_num))
 refine gw_call E rfl rfl (by k_ne) rfl Tryz.wgLib.f_add (nm_add Tryz.link) (c := body_add Tryz.link) rfl ?_
 refine gw_up E (n := 60) ?_ (by omega)
 walk_nrm
 rw [show (addFn Tryz.link).ntmps - 2 = 115 from rfl]
 refine add_tail (qt := 8) I B ?_
 q_c stepG_region_end
 q_c stepG_end
 q_leave0 Tryz.wgLib.f_done
 q_c stepG_region_end
 q_c stepG_end
 exact QuitsD.leaveD rfl rfl Tryz.func145 rfl rfl (quitsTail _)
end
end Go.Mark
set_option maxRecDepth 100000
set_option maxHeartbeats 4000000
namespace Go.Walk
open Go.Conc
theorem gw_store {P : Program} {main : Bool} {R : World -> World -> Prop} {D : World -> World -> Array Event -> Prop} {Stop : Goroutine -> World -> Prop} {F F' : World -> Prop} {n : Nat} (E : Env R D F)
  {b : Frame} {a : Act} {k : List Item} {cs : List Frame} {ops : Array Oper} {i : Nat} {rest : List Nat} {o : Oper} (ho : ops[i]? = some o) (hw : Region.wanted o (yielded ops a.tmps) = true) (hk : b.kind ≠ .early)
  (hr : ∀ w, F w -> ∃ w', (execOp a.eval o).run P w = .ok .skip w' /\ D w w' (listed P b.fn a o w) /\ F' w') (h : GoW P main R D Stop F' n (G (b.at (a.put o.dst undef) (.inRegion ops rest :: k)) cs)) :
  GoW P main R D Stop F (n + 1) (G (b.at a (.inRegion ops (i :: rest) :: k)) cs) :=
 fun _ hw' => Goes.step rfl fun w₁ h₁ => by
  obtain ⟨w', e, hD, hF'⟩ := hr w₁ (E.cl _ _ hw' h₁)
  rw [stepG_none ho hw hk e]
  exact ⟨hD, h _ hF'⟩
theorem run_store0 {P : Program} {ad : Addr} {u v : Value} {w : World} (hv : ∀ z, v ≠ .agg z) (hv' : ∀ z, v ≠ .tuple z) (hc : w.cell? ad = some u) (hf : w.frozen? ad = false) :
  (store ad v).run P w = .ok () (w.setCell ad v) /\ ∀ es, (store ad v).events P w es = es.push ⟨.cell ad, true, false⟩ := by
 have h : ∀ es, (store ad v).runT P w es = (.ok () (w.setCell ad v), es.push ⟨.cell ad, true, false⟩) := fun es => by
  show Sem.runT P (.store .plain ad v (.pure ())) w es = _
  cases v with
  | agg z => exact absurd rfl (hv z)
  | tuple z => exact absurd rfl (hv' z)
  | _ => simp [Sem.runT, hc, hf]; try rfl
 refine ⟨?_, fun es => ?_⟩
 ·show Sem.run P (.store .plain ad v (.pure ())) w = _
  cases v with
  | agg z => exact absurd rfl (hv z)
  | tuple z => exact absurd rfl (hv' z)
  | _ => simp [Sem.run, hc, hf]
 ·have := h es
  rw [Sem.events, this]
theorem run_store1 {P : Program} {o : Oper} {ev : Operand -> Value} {t : TypeId} {x y : Operand} {ad : Addr} {u v : Value} {w : World} (hop : o.op = .store t x y) (hx : ev x = .pointer (some ad)) (hy : ev y = v) (hv : ∀ z, v ≠ .agg z) (hv' : ∀ z, v ≠ .tuple z) (hz : ∀ w, Sem.run P (Go.sizeOf t) w = .ok 1 w) (hc : w.cell? ad = some u) (hf : w.frozen? ad = false) :
  (execOp ev o).run P w = .ok .skip (w.setCell ad v) /\ (execOp ev o).events P w #[] = #[⟨.cell ad, true, false⟩] := by
 have h0 := run_store0 (P := P) hv hv' hc hf
 unfold execOp
 simp only [hop, hx, hy]
 cases v with
 | agg z => exact absurd rfl (hv z)
 | tuple z => exact absurd rfl (hv' z)
 | _ =>
  constructor
  ·simp [go_sem, stored, hz, hc, hf, h0.1]
  ·simp [go_sem, storedEv, hz, hc, hf, h0.2]
theorem gw_store1 {P : Program} {main : Bool} {R : World -> World -> Prop} {D : World -> World -> Array Event -> Prop} {Stop : Goroutine -> World -> Prop} {F F' : World -> Prop} {n : Nat} (E : Env R D F)
  {b : Frame} {a : Act} {k : List Item} {cs : List Frame} {ops : Array Oper} {i : Nat} {rest : List Nat} {o : Oper} {t : TypeId} {x y : Operand} {ad : Addr} {v : Value} (ho : ops[i]? = some o) (hw : Region.wanted o (yielded ops a.tmps) = true) (hk : b.kind ≠ .early)
  (hop : o.op = .store t x y) (hx : a.eval x = .pointer (some ad)) (hy : a.eval y = v) (hv : ∀ z, v ≠ .agg z) (hv' : ∀ z, v ≠ .tuple z) (hz : ∀ w, Sem.run P (Go.sizeOf t) w = .ok 1 w)
  (hr : ∀ w, F w -> (∃ u, w.cell? ad = some u) /\ w.frozen? ad = false /\ (∀ es : Array Event, (∀ e ∈ es, e = ⟨.cell ad, true, false⟩) -> D w (w.setCell ad v) es) /\ F' (w.setCell ad v))
  (h : GoW P main R D Stop F' n (G (b.at (a.put o.dst undef) (.inRegion ops rest :: k)) cs)) : GoW P main R D Stop F (n + 1) (G (b.at a (.inRegion ops (i :: rest) :: k)) cs) :=
 gw_store E ho hw hk (fun w hF => by
  obtain ⟨⟨u, hu⟩, hz', hD, hF'⟩ := hr w hF
  have hh := run_store1 (P := P) hop hx hy hv hv' hz hu hz'
  refine ⟨_, hh.1, hD _ (fun e he => ?_), hF'⟩
  have he := mem_listed he
  rw [hh.2, Array.mem_singleton] at he
  exact he) h
end Go.Walk
namespace Go.Mark
open Go.Conc Go.Walk Go.Phase Go.RowKit Go.Conc.Lib Go.ConcR.Gen Go.ConcN.Gen Go.Lift Go.Proofs
open Go.ConcN (WgLive Has RW DWs AtR0 PayAt)
open Go.ConcR (KK WgAt stA smA rd wr mk Payload)
abbrev sl (b m : Nat) : Value := .slice (some ⟨b, 0, none⟩) m m
def byt (s : ByteArray) (p : Nat) : Nat := if h : p < s.size then (s[p]'h).toNat else 0
theorem byt_lt (s : ByteArray) (p : Nat) : byt s p < 256 := by
 unfold byt
 split
 ·exact UInt8.toNat_lt _
 ·omega
def lenAt (s : ByteArray) (p : Nat) : Nat := if 96 <= byt s p /\ byt s p <= 127 then byt s p - 94 else 1
theorem lenAt_pos (s : ByteArray) (p : Nat) : 1 <= lenAt s p := by unfold lenAt; split <;> omega
def marks (s : ByteArray) : Nat -> Nat -> Array Value -> Array Value
 | 0, _, A => A
 | k + 1, p, A => if p < s.size then marks s k (p + lenAt s p) (A.setIfInBounds p (.bool ((byt s p : Int) == 48))) else A
theorem ev_len (w : World) (s : ByteArray) : (Builtin.len_ #[9] 3 #[.string s]).events Tryz.prog w #[] = #[] := by
 simp [Builtin.len_, go_sem]
theorem ev_idx (w : World) (s : ByteArray) (p : Nat) (h : p < s.size) : (Instr.index 9 (.string s) (.int .i64 p)).events Tryz.prog w #[] = #[] := by
 simp [Instr.index, go_sem, h]
section
variable {c : Cfg} {Low i b : Nat} {X : World -> Prop}
structure FM (X : World -> Prop) (b : Nat) (A : Array Value) (w : World) : Prop where
 x : X w
 blk : w.heap[b]? = some (.cells A 4)
theorem envM (hX : ∀ w w₁, X w -> RX c Low i (· = b) w w₁ -> X w₁) (A : Array Value) : Env (RX c Low i (· = b)) (DB c Low b i) (FM X b A) :=
 ⟨fun _ _ h r => ⟨hX _ _ h.x r, (r.mine b rfl).trans h.blk⟩, fun w => db_nil w⟩
noncomputable def loop38 : Code := match Tryz.f99.body with
 | some (.seq _ (.seq _ (.seq (.seq _ (.block _ (.loop l))) _))) => l
 | _ => .skip
noncomputable def rest38 : Code := match Tryz.f99.body with
 | some (.seq _ (.seq _ (.seq _ r))) => r
 | _ => .skip
theorem store_own {w : World} {A : Array Value} {p : Nat} (hb : w.heap[b]? = some (.cells A 4)) (hp : p < A.size) (v : Value) :
  (∃ u, w.cell? ⟨b, p, none⟩ = some u) /\ w.frozen? ⟨b, p, none⟩ = false /\ (w.setCell ⟨b, p, none⟩ v).heap[b]? = some (.cells (A.setIfInBounds p v) 4) := by
 refine ⟨⟨A[p], by simp [World.cell?, hb, hp]⟩, by simp [World.frozen?, hb], ?_⟩
 rw [setCell_eq_setRow w b p A _ (0, 0) _ hb, setRow_heap w b _ _ _ _ hb]
theorem db_own (I : IsC c) (hbC : b ≠ c.C) {w : World} {A : Array Value} {p : Nat} (hb : w.heap[b]? = some (.cells A 4)) (hp : p < A.size) (v : Value) {es : Array Event} (hes : ∀ e ∈ es, e = ⟨.cell ⟨b, p, none⟩, true, false⟩) :
  DB c Low b i w (w.setCell ⟨b, p, none⟩ v) es := by
 have hA := aside_setCell w ⟨b, p, none⟩ v
 have hC : (w.setCell ⟨b, p, none⟩ v).heap[c.C]? = w.heap[c.C]? := hA.block _ (Ne.symm hbC)
 refine ⟨hA.size, fun b' h1 _ => hA.block b' h1, fun _ => ⟨_, (0, 0), by rw [I.tb]; exact (store_own hb hp v).2.2⟩, fun ⟨cs, h1, h2⟩ => ⟨cs, by rw [hC]; exact h1, h2⟩, fun i' _ => ?_, fun e he => .inr ⟨⟨b, p, none⟩, true, hes e he, .inl rfl⟩, tidy_set _ _ _, hA.os, hA.output⟩
 simp only [World.cell?, hC]
theorem nat_u8 (x : Nat) (h : x < 256) (h1 : 96 <= x) : IntKind.u8.wrap ((x : Int) - 96) = (x : Int) - 96 := by rw [IntKind.wrap_u8]; omega
theorem round (hX : ∀ w w₁, X w -> RX c Low i (· = b) w w₁ -> X w₁) {s : ByteArray} {p : Nat} {A : Array Value} (hp : p < s.size) (hA : A.size = s.size) {Stop : Goroutine -> World -> Prop} {cs : List Frame} {nn : Nat} {v1 v2 v5 v6 v7 v8 v9 v10 v11 v12 v13 v14 v15 v16 v17 v18 v19 v20 v21 v22 v23 v24 v25 : Value}
  (I : IsC c) (hbC : b ≠ c.C) (hXs : ∀ w v, X w -> X (World.setCell w ⟨b, p, none⟩ v)) (h31 : s.size < 2147483648)
  (h : ∀ v1 v2 v5 v6 v7 v8 v9 v10 v11 v12 v13 v14 v15 v16 v17 v18 v19 v20 v21 v22 v23 v24 v25 : Value, GoW Tryz.prog false (RX c Low i (· = b)) (DB c Low b i) Stop (FM X b (A.setIfInBounds p (.bool ((byt s p : Int) == 48)))) nn (G ((base 99).at ⟨#[.string s, v1, v2, sl b s.size, .int .i64 ((p + lenAt s p : Nat) : Int), v5, v6, v7, v8, v9, v10, v11, v12, v13, v14, v15, v16, v17, v18, v19, v20, v21, v22, v23, v24, v25], []⟩ [.code loop38, .inLoop loop38, .inBlock 0, .code rest38]) cs)) :
  GoW Tryz.prog false (RX c Low i (· = b)) (DB c Low b i) Stop (FM X b A) (nn + 80) (G ((base 99).at ⟨#[.string s, v1, v2, sl b s.size, .int .i64 (p : Int), v5, v6, v7, v8, v9, v10, v11, v12, v13, v14, v15, v16, v17, v18, v19, v20, v21, v22, v23, v24, v25], []⟩ [.code loop38, .inLoop loop38, .inBlock 0, .code rest38]) cs) := by
 have E := envM hX A
 obtain ⟨L, hL⟩ : ∃ L, L = loop38 := ⟨_, rfl⟩
 rw [<- hL] at h ⊢
 generalize hr : rest38 = rest at h ⊢
 have hbx : ∀ hp, ((s[p]'hp).toNat : Int) = (byt s p : Int) := fun hp => by simp [byt, hp]
 have c1 : (p : Int) < (s.size : Int) := by omega
 have e1 := fun w => ev_len w s
 have e2 := fun w => ev_idx w s p hp
 have hL' := hL
 simp only [loop38, Tryz.f99] at hL'
 rw [show (Item.code L) = Item.code _ from congrArg Item.code hL']
 repeat (first
  | refine gw_seq E ?_
  | refine gw_skip E ?_
  | refine gw_region_end E ?_
  | refine gw_region_1 E ?_
  | refine gw_region_4 E ?_
  | refine gw_region_5 E ?_
  | refine gw_region_6 E ?_
  | refine gw_region_7 E ?_
  | refine gw_region_8 E ?_
  | refine gw_true E rfl ?_
  | refine gw_false E rfl ?_
  | (refine gw_unwanted E rfl rfl ?_; walk_nrm)
  | refine gw_block E ?_
  | refine gw_inLoop E ?_
  | refine gw_inBlock E ?_
  | refine gw_ret E ?_
  | refine gw_true E (by simp [Act.eval]; omega) ?_
  | refine gw_false E (by simp [Act.eval]; omega) ?_
  | (refine gw_opk E rfl rfl (by k_ne) (fun w hF K hK => ?_); go_simp; refine hK _ (by simp [go_sem, *]) ?_; clear hK K hF w; try w_num))
 try simp only [hbx]
 refine gw_store1 E (v := .bool ((byt s p : Int) == 48)) (F' := FM X b (A.setIfInBounds p (.bool ((byt s p : Int) == 48)))) rfl rfl (by k_ne) rfl rfl rfl (fun _ => by simp) (fun _ => by simp) Tryz.sizeOf4 (fun w hF => ?_) ?_
 ·obtain ⟨hu, hz, hset⟩ := store_own hF.blk (hA ▸ hp) (.bool ((byt s p : Int) == 48))
  exact ⟨hu, hz, fun es hes => db_own I hbC hF.blk (hA ▸ hp) _ hes, ⟨hXs _ _ hF.x, hset⟩⟩
 replace E := envM hX (A.setIfInBounds p (.bool ((byt s p : Int) == 48)))
 walk_nrm
 repeat (first
  | refine gw_seq E ?_
  | refine gw_skip E ?_
  | refine gw_region_end E ?_
  | refine gw_region_1 E ?_
  | refine gw_region_4 E ?_
  | refine gw_region_5 E ?_
  | refine gw_region_6 E ?_
  | refine gw_region_7 E ?_
  | refine gw_region_8 E ?_
  | refine gw_true E rfl ?_
  | refine gw_false E rfl ?_
  | (refine gw_unwanted E rfl rfl ?_; walk_nrm)
  | refine gw_block E ?_
  | refine gw_inLoop E ?_
  | refine gw_inBlock E ?_
  | refine gw_ret E ?_
  | refine gw_true E (by simp [Act.eval]; omega) ?_
  | refine gw_false E (by simp [Act.eval]; omega) ?_
  | (refine gw_opk E rfl rfl (by k_ne) (fun w hF K hK => ?_); go_simp; refine hK _ (by simp [go_sem, *]) ?_; clear hK K hF w; try w_num))
 have h256 := byt_lt s p
 have hw3 := nat_u8 (byt s p) h256
 have hla : ((p + lenAt s p : Nat) : Int) = (p : Int) + (lenAt s p : Int) := by omega
 have hw4 : ∀ y : Int, 0 <= y -> y <= 33 -> IntKind.i64.wrap ((p : Int) + y) = (p : Int) + y := fun y h1 h2 => by rw [IntKind.wrap_i64]; omega
 refine gw_call E rfl rfl (by k_ne) rfl Tryz.func147 nm50 rfl ?_
 walk_nrmf Tryz.f147
 rcases Nat.lt_or_ge (byt s p) 96 with hx | hx
 ·have hn : ¬ (96 : Int) <= (byt s p : Int) := by omega
  have hl : lenAt s p = 1 := by unfold lenAt; rw [if_neg (by omega)]
  have hw5 : IntKind.i64.wrap ((p : Int) + 1) = (p : Int) + 1 := hw4 1 (by omega) (by omega)
  repeat (first
   | refine gw_seq E ?_
   | refine gw_skip E ?_
   | refine gw_region_end E ?_
   | refine gw_region_1 E ?_
   | refine gw_region_4 E ?_
   | refine gw_region_5 E ?_
   | refine gw_region_6 E ?_
   | refine gw_region_7 E ?_
   | refine gw_region_8 E ?_
   | refine gw_true E rfl ?_
   | refine gw_false E rfl ?_
   | (refine gw_unwanted E rfl rfl ?_; walk_nrm)
   | refine gw_block E ?_
   | refine gw_inLoop E ?_
   | refine gw_inBlock E ?_
   | refine gw_ret E ?_
   | refine gw_true E (by simp [Act.eval]; omega) ?_
   | refine gw_false E (by simp [Act.eval]; omega) ?_
   | (refine gw_leave1 E rfl rfl Tryz.func147 rfl ?_; walk_nrm)
   | (refine gw_opk E rfl rfl (by k_ne) (fun w hF K hK => ?_); go_simp; refine hK _ (by simp [go_sem, *]) ?_; clear hK K hF w; try w_num))
  rw [show (p : Int) + 1 = ((p + lenAt s p : Nat) : Int) by rw [hl]; omega]
  exact gw_up E (h _ _ _ _ _ _ _ _ _ _ _ _ _ _ _ _ _ _ _ _ _ _ _) (by omega)
 ·rcases Nat.lt_or_ge 127 (byt s p) with hx' | hx'
  ·have hn : (96 : Int) <= (byt s p : Int) := by omega
   have hn' : ¬ (byt s p : Int) <= 127 := by omega
   have hl : lenAt s p = 1 := by unfold lenAt; rw [if_neg (by omega)]
   have hw5 : IntKind.i64.wrap ((p : Int) + 1) = (p : Int) + 1 := hw4 1 (by omega) (by omega)
   repeat (first
    | refine gw_seq E ?_
    | refine gw_skip E ?_
    | refine gw_region_end E ?_
    | refine gw_region_1 E ?_
    | refine gw_region_4 E ?_
    | refine gw_region_5 E ?_
    | refine gw_region_6 E ?_
    | refine gw_region_7 E ?_
    | refine gw_region_8 E ?_
    | refine gw_true E rfl ?_
    | refine gw_false E rfl ?_
    | (refine gw_unwanted E rfl rfl ?_; walk_nrm)
    | refine gw_block E ?_
    | refine gw_inLoop E ?_
    | refine gw_inBlock E ?_
    | refine gw_ret E ?_
    | refine gw_true E (by simp [Act.eval]; omega) ?_
    | refine gw_false E (by simp [Act.eval]; omega) ?_
    | (refine gw_leave1 E rfl rfl Tryz.func147 rfl ?_; walk_nrm)
    | (refine gw_opk E rfl rfl (by k_ne) (fun w hF K hK => ?_); go_simp; refine hK _ (by simp [go_sem, *]) ?_; clear hK K hF w; try w_num))
   rw [show (p : Int) + 1 = ((p + lenAt s p : Nat) : Int) by rw [hl]; omega]
   exact gw_up E (h _ _ _ _ _ _ _ _ _ _ _ _ _ _ _ _ _ _ _ _ _ _ _) (by omega)
  ·have hn : (96 : Int) <= (byt s p : Int) := by omega
   have hn' : (byt s p : Int) <= 127 := by omega
   have hl : lenAt s p = byt s p - 94 := by unfold lenAt; rw [if_pos (by omega)]
   have hw6 := hw3 hx
   have hw7 : IntKind.i64.wrap ((byt s p : Int) - 96) = (byt s p : Int) - 96 := by rw [IntKind.wrap_i64]; omega
   have hw8 : IntKind.i64.wrap ((byt s p : Int) - 96 + 2) = (byt s p : Int) - 96 + 2 := by rw [IntKind.wrap_i64]; omega
   have hw5 := hw4 ((byt s p : Int) - 96 + 2) (by omega) (by omega)
   repeat (first
    | refine gw_seq E ?_
    | refine gw_skip E ?_
    | refine gw_region_end E ?_
    | refine gw_region_1 E ?_
    | refine gw_region_4 E ?_
    | refine gw_region_5 E ?_
    | refine gw_region_6 E ?_
    | refine gw_region_7 E ?_
    | refine gw_region_8 E ?_
    | refine gw_true E rfl ?_
    | refine gw_false E rfl ?_
    | (refine gw_unwanted E rfl rfl ?_; walk_nrm)
    | refine gw_block E ?_
    | refine gw_inLoop E ?_
    | refine gw_inBlock E ?_
    | refine gw_ret E ?_
    | refine gw_true E (by simp [Act.eval]; omega) ?_
    | refine gw_false E (by simp [Act.eval]; omega) ?_
    | (refine gw_leave1 E rfl rfl Tryz.func147 rfl ?_; walk_nrm)
    | (refine gw_opk E rfl rfl (by k_ne) (fun w hF K hK => ?_); go_simp; refine hK _ (by simp [go_sem, *]) ?_; clear hK K hF w; try w_num))
   rw [show (p : Int) + ((byt s p : Int) - 96 + 2) = ((p + lenAt s p : Nat) : Int) by rw [hl]; omega]
   exact gw_up E (h _ _ _ _ _ _ _ _ _ _ _ _ _ _ _ _ _ _ _ _ _ _ _) (by omega)
end
end Go.Mark
set_option maxRecDepth 100000
set_option maxHeartbeats 4000000
namespace Go.Mark
open Go.Conc Go.Walk Go.Phase Go.RowKit Go.Conc.Lib Go.ConcR.Gen Go.ConcN.Gen Go.Lift Go.Proofs
open Go.ConcN (WgLive Has RW DWs AtR0 PayAt)
open Go.ConcR (KK WgAt stA smA rd wr mk Payload)
section
variable {c : Cfg} {Low i b : Nat} {X : World -> Prop} {Stop : Goroutine -> World -> Prop} {b₀ : Frame} {a₀ : Act} {ops₀ : Array Oper} {i₀ : Nat} {rest₀ : List Nat} {k₀ : List Item} {cs : List Frame} {s : ByteArray} {nT : Nat}
theorem loop_end (hX : ∀ w w₁, X w -> RX c Low i (· = b) w w₁ -> X w₁) {p : Nat} {A : Array Value} (hp : s.size <= p) {v1 v2 v5 v6 v7 v8 v9 v10 v11 v12 v13 v14 v15 v16 v17 v18 v19 v20 v21 v22 v23 v24 v25 : Value}
  (h : GoW Tryz.prog false (RX c Low i (· = b)) (DB c Low b i) Stop (FM X b A) nT (G (b₀.at (a₀.put ((ops₀[i₀]?).bind (·.dst)) (sl b s.size)) (.inRegion ops₀ rest₀ :: k₀)) cs)) :
  GoW Tryz.prog false (RX c Low i (· = b)) (DB c Low b i) Stop (FM X b A) (nT + 40) (G ((base 99).at ⟨#[.string s, v1, v2, sl b s.size, .int .i64 (p : Int), v5, v6, v7, v8, v9, v10, v11, v12, v13, v14, v15, v16, v17, v18, v19, v20, v21, v22, v23, v24, v25], []⟩ [.code loop38, .inLoop loop38, .inBlock 0, .code rest38]) (b₀.at a₀ (.inRegion ops₀ (i₀ :: rest₀) :: k₀) :: cs)) := by
 have E := envM hX A
 obtain ⟨L, hL⟩ : ∃ L, L = loop38 := ⟨_, rfl⟩
 rw [<- hL]
 have c1 : ¬ (p : Int) < (s.size : Int) := by omega
 have e1 := fun w => ev_len w s
 have hL' := hL
 simp only [loop38, Tryz.f99] at hL'
 rw [show (Item.code L) = Item.code _ from congrArg Item.code hL']
 simp only [rest38, Tryz.f99]
 repeat (first
  | refine gw_seq E ?_
  | refine gw_region_end E ?_
  | refine gw_region_2 E ?_
  | refine gw_region_4 E ?_
  | refine gw_false E rfl ?_
  | refine gw_exit E rfl ?_
  | refine gw_ret E ?_
  | refine gw_false E (by simp [Act.eval]; omega) ?_
  | (refine gw_opk E rfl rfl (by k_ne) (fun w hF K hK => ?_); go_simp; refine hK _ (by simp [go_sem, *]) ?_; clear hK K hF w; try w_num))
 refine gw_leave1 E rfl rfl Tryz.func99 rfl ?_
 exact gw_up E h (by omega)
theorem loop_all (I : IsC c) (hbC : b ≠ c.C) (hX : ∀ w w₁, X w -> RX c Low i (· = b) w w₁ -> X w₁) (hXs : ∀ w p v, X w -> X (World.setCell w ⟨b, p, none⟩ v)) (h31 : s.size < 2147483648) :
  ∀ (k p : Nat) (A : Array Value) (v1 v2 v5 v6 v7 v8 v9 v10 v11 v12 v13 v14 v15 v16 v17 v18 v19 v20 v21 v22 v23 v24 v25 : Value), s.size - p <= k -> A.size = s.size -> GoW Tryz.prog false (RX c Low i (· = b)) (DB c Low b i) Stop (FM X b (marks s k p A)) nT (G (b₀.at (a₀.put ((ops₀[i₀]?).bind (·.dst)) (sl b s.size)) (.inRegion ops₀ rest₀ :: k₀)) cs) ->
   GoW Tryz.prog false (RX c Low i (· = b)) (DB c Low b i) Stop (FM X b A) (nT + 40 + 80 * k) (G ((base 99).at ⟨#[.string s, v1, v2, sl b s.size, .int .i64 (p : Int), v5, v6, v7, v8, v9, v10, v11, v12, v13, v14, v15, v16, v17, v18, v19, v20, v21, v22, v23, v24, v25], []⟩ [.code loop38, .inLoop loop38, .inBlock 0, .code rest38]) (b₀.at a₀ (.inRegion ops₀ (i₀ :: rest₀) :: k₀) :: cs))
 | 0, p, A, v1, v2, v5, v6, v7, v8, v9, v10, v11, v12, v13, v14, v15, v16, v17, v18, v19, v20, v21, v22, v23, v24, v25, hk, hA, h => by
  exact loop_end hX (by omega) h
 | k + 1, p, A, v1, v2, v5, v6, v7, v8, v9, v10, v11, v12, v13, v14, v15, v16, v17, v18, v19, v20, v21, v22, v23, v24, v25, hk, hA, h => by
  have E := envM hX A
  unfold marks at h
  split at h
  ·rename_i hp
   have hl := lenAt_pos s p
   have := round (nn := nT + 40 + 80 * k) hX hp hA I hbC (fun w v => hXs w p v) h31 (Stop := Stop) (cs := (b₀.at a₀ (.inRegion ops₀ (i₀ :: rest₀) :: k₀) :: cs)) (v1 := v1) (v2 := v2) (v5 := v5) (v6 := v6) (v7 := v7) (v8 := v8) (v9 := v9) (v10 := v10) (v11 := v11) (v12 := v12) (v13 := v13) (v14 := v14) (v15 := v15) (v16 := v16) (v17 := v17) (v18 := v18) (v19 := v19) (v20 := v20) (v21 := v21) (v22 := v22) (v23 := v23) (v24 := v24) (v25 := v25) (fun v1 v2 v5 v6 v7 v8 v9 v10 v11 v12 v13 v14 v15 v16 v17 v18 v19 v20 v21 v22 v23 v24 v25 => loop_all I hbC hX hXs h31 k (p + lenAt s p) _ v1 v2 v5 v6 v7 v8 v9 v10 v11 v12 v13 v14 v15 v16 v17 v18 v19 v20 v21 v22 v23 v24 v25 (by omega) (by simpa using hA) h)
   exact gw_up E this (by omega)
  ·rename_i hp
   exact gw_up E (loop_end hX (by omega) h) (by omega)
def zeros (n : Nat) : Array Value := madeCells (Value.cells (.bool false)) n
theorem zeros_size (n : Nat) : (zeros n).size = n := size_madeCells _ _
noncomputable def ops38 : Array Oper := match Tryz.f99.body with
 | some (.seq _ (.seq (.region _ o _) _)) => o
 | _ => #[]
noncomputable def tail38 : Code := match Tryz.f99.body with
 | some (.seq _ (.seq _ r)) => r
 | _ => .skip
theorem made_all (I : IsC c) (hbC : b ≠ c.C) (hX : ∀ w w₁, X w -> RX c Low i (· = b) w w₁ -> X w₁) (hXs : ∀ w p v, X w -> X (World.setCell w ⟨b, p, none⟩ v)) (h31 : s.size < 2147483648)
  (h : GoW Tryz.prog false (RX c Low i (· = b)) (DB c Low b i) Stop (FM X b (marks s s.size 0 (zeros s.size))) nT (G (b₀.at (a₀.put ((ops₀[i₀]?).bind (·.dst)) (sl b s.size)) (.inRegion ops₀ rest₀ :: k₀)) cs)) :
  GoW Tryz.prog false (RX c Low i (· = b)) (DB c Low b i) Stop (FM X b (zeros s.size)) (nT + 40 + 80 * s.size + 40) (G ((base 99).at ⟨#[.string s, undef, .slice none 0 0, undef, undef, .string s, .int .i64 (s.size : Int), sl b s.size, undef, undef, undef, undef, undef, undef, undef, undef, undef, undef, undef, undef, undef, undef, undef, undef, undef, undef], []⟩ [.inRegion ops38 [3], .code tail38]) (b₀.at a₀ (.inRegion ops₀ (i₀ :: rest₀) :: k₀) :: cs)) := by
 have E := envM hX (zeros s.size)
 obtain ⟨L, hL⟩ : ∃ L, L = loop38 := ⟨_, rfl⟩
 obtain ⟨rest, hr⟩ : ∃ r, r = rest38 := ⟨_, rfl⟩
 have hL' := hL
 have hr' := hr
 simp only [loop38, Tryz.f99] at hL'
 simp only [rest38, Tryz.f99] at hr'
 simp only [tail38, ops38, Tryz.f99]
 rw [<- hL', <- hr']
 repeat (first
  | refine gw_seq E ?_
  | refine gw_region_end E ?_
  | refine gw_region_1 E ?_
  | refine gw_block E ?_
  | refine gw_loop E ?_
  | (refine gw_opk E rfl rfl (by k_ne) (fun w hF K hK => ?_); go_simp; refine hK _ (by simp [go_sem, *]) ?_; clear hK K hF w; try w_num))
 rw [hL, hr]
 exact gw_up E (n := nT + 40 + 80 * s.size) (loop_all I hbC hX hXs h31 s.size 0 (zeros s.size) _ _ _ _ _ _ _ _ _ _ _ _ _ _ _ _ _ _ _ _ _ _ _ (by omega) (zeros_size _) h) (by omega)
end
end Go.Mark
