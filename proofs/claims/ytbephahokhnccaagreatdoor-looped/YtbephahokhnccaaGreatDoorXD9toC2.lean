import Derived.Test.YtbephahokhnccaaGreatDoorXD7toD8
import Derived.Conc.CompanyDraw
set_option linter.unusedSectionVars false
set_option maxRecDepth 100000
set_option maxHeartbeats 4000000
namespace Go.Mark
open Go.Conc Go.Walk Go.Phase Go.RowKit Go.Conc.Lib Go.ConcR.Gen Go.ConcN.Gen Go.Lift Go.Proofs
open Go.ConcN (WgLive Has RW DWs AtR0 PayAt)
open Go.ConcR (KK WgAt stA smA rd wr mk Payload)
section
variable {c : Cfg} (I : IsC c) {Low i bm bi ba bw bf b : Nat} (B : Bx c Low bm bi ba bw bf) {s : ByteArray} {w : World}
theorem follows : Tryz.prog.follows .mixedOrders = true := by kernel_rfl
theorem born_step (bw bf : Nat) (w : World) : stepG Tryz.prog false (born Tryz.prog (dclo 144 #[pt bw, pt bf])) w = .go (G ((baseD 144).at ⟨#[pt bw, pt bf, undef, undef, undef], []⟩ [.code (Tryz.f144.body.getD .skip)]) [bot]) w #[] := by
 simp [born, dclo, stepG, unwind, callDeferred, invoke, callFunc, Tryz.func144, Tryz.f144, seen, GStep.after, G, Frame.enter, Frame.at, baseD, bot]
theorem ev_mf (w : World) (f : FuncId) (x : Array Value) : (Instr.makeFunc (.func f) #[] x).events Tryz.prog w #[] = #[] := by
 unfold Instr.makeFunc
 simp [go_sem]
theorem ops37_eq : Tryz.f98.body = some (.region 0 ops37 true) := rfl
theorem ops37_size : ops37.size = 7 := rfl
theorem works (I : IsC c) (B : Bx c Low bm bi ba bw bf) (hi : i < c.n) (h31 : s.size < 2147483648) (hOut : ∀ (w : World) (b : Nat), w.heap[b]? = some (.cells (marks s s.size 0 (zeros s.size)) 4) -> w.cell? ⟨c.C, i, none⟩ = some (sl b s.size) -> c.Out i b w) (hK : WK c i bm bi ba bw bf s w) : Works c i Low (born c.P (dclo 144 #[pt bw, pt bf])) w := by
 unfold Works
 rw [I.P]
 refine ⟨101, 150 + 40 + 80 * s.size + 40, ?_⟩
 have E := envK (own := fun _ => False) (s := s) (i := i) I B
 have e3 := ev_mf
 refine gw_step E (n := 100) rfl (fun w _ => born_step bw bf w) ?_ w hK
 simp only [Tryz.f144, Option.getD_some]
 repeat (first
  | refine gw_seq E ?_
  | refine gw_region_end E ?_
  | refine gw_region_2 E ?_
  | (refine gw_defer_clo E rfl rfl (by k_ne) rfl rfl ?_; walk_nrm)
  | (refine gw_reads E rfl rfl (by k_ne) (fun w hF => (run_load1 rfl rfl Tryz.sizeOf1 Tryz.isAgg1 (cell_of hF.fv)).1) (fun w hF => da_read (read_a I B.f hF.fv (by decide) (run_load1 rfl rfl Tryz.sizeOf1 Tryz.isAgg1 (cell_of hF.fv)).2)) ?_; walk_nrm)
  | (refine gw_opk E rfl rfl (by k_ne) (fun w hF K hK => ?_); go_simp; refine hK _ (by simp [go_sem, *]) ?_; clear hK K hF w; try w_num))
 refine gw_call_clo E rfl rfl (by k_ne) rfl rfl Tryz.func98 nm37 ops37_eq ?_
 walk_nrm
 rw [show Tryz.f98.ntmps - 3 = 6 from rfl]
 walk_nrm
 refine fun w' hF => Goes.step rfl fun w₁ h₁ => ?_
 have hF1 := E.cl _ _ hF h₁
 rw [stepG_region_draw, follows]
 refine ⟨⟨⟨w₁.drawn + 1, rfl⟩, fun e he => by simp at he⟩, ?_⟩
 exact gw_up E (A000 I B hi h31 hOut (ord_of ops37_size rfl _)) (by omega) _ ⟨hF1.mv, hF1.iv, hF1.av, hF1.wv, hF1.fv, hF1.live, hF1.pay⟩
end
end Go.Mark
namespace Go.Mark
open Go.Conc Go.Walk Go.Phase Go.RowKit Go.Conc.Lib Go.ConcR.Gen Go.ConcN.Gen Go.Lift Go.Proofs
open Go.ConcN (WgLive Has RW DWs AtR0 PayAt)
open Go.ConcR (KK WgAt stA smA rd wr mk Payload)
structure Rw where
 b : Nat
 x : Array Value
 e : TypeId
def HR (bs : List Rw) (w : World) : Prop := ∀ q ∈ bs, w.heap[q.b]? = some (.cells q.x q.e)
structure GR (c : Cfg) (bs : List Rw) : Prop where
 wg : ∀ q ∈ bs, q.b ≠ c.Wg
 cc : ∀ q ∈ bs, q.b ≠ c.C
 ty : ∀ q ∈ bs, q.e ≠ 4
 sh : ∀ q ∈ bs, ∀ a : Addr, a.block = q.b -> ¬ c.Shun (.cell a)
structure F0 (c : Cfg) (Low : Nat) (bs : List Rw) (w : World) : Prop where
 rows : HR bs w
 low : Low <= w.heap.size
 live : WgLive 189 c.Wg w
structure Lo (c : Cfg) (Low : Nat) : Prop where
 wg : c.Wg < Low
 cc : c.C < Low
 ba : c.base <= Low
section
variable {c : Cfg} (I : IsC c) {Low : Nat} {bs : List Rw} {w w₁ : World}
theorem HR.tail {q : Rw} (h : HR (q :: bs) w) : HR bs w := fun p hp => h p (List.mem_cons_of_mem _ hp)
theorem HR.head {q : Rw} (h : HR (q :: bs) w) : w.heap[q.b]? = some (.cells q.x q.e) := h q List.mem_cons_self
theorem F0.rely (I : IsC c) (g : GR c bs) (h : F0 c Low bs w) (r : R0 c w w₁) : F0 c Low bs w₁ :=
 ⟨fun q hq => (r.keep q.b (lt_of_heap (h.rows q hq)) (g.wg q hq) (g.cc q hq) (notB I (h.rows q hq) (g.ty q hq))).trans (h.rows q hq), Nat.le_trans h.low r.size, by have := r.live; rw [I.ty] at this; exact this h.live⟩
theorem d0_nil (w : World) : D0 c Low w w #[] := ⟨Nat.le_refl _, fun _ _ _ => rfl, (fun e he => by simp at he), id, rfl, rfl⟩
theorem env0 (I : IsC c) (g : GR c bs) : Env (R0 c) (D0 c Low) (F0 c Low bs) := ⟨fun _ _ h r => h.rely I g r, fun w => d0_nil w⟩
theorem GR.cons (I : IsC c) (g : GR c bs) (L : Lo c Low) {q : Rw} (hb : Low <= q.b) (he : q.e ≠ 4) : GR c (q :: bs) := by
 have hs : ∀ a : Addr, a.block = q.b -> ¬ c.Shun (.cell a) := fun a ha hS => by
  obtain ⟨a', e, hlt⟩ := I.geo.shun _ hS
  cases e
  have := L.ba
  omega
 have h1 := L.wg
 have h2 := L.cc
 refine ⟨fun p hp => ?_, fun p hp => ?_, fun p hp => ?_, fun p hp => ?_⟩ <;> rcases List.mem_cons.1 hp with rfl | hp
 ·omega
 ·exact g.wg p hp
 ·omega
 ·exact g.cc p hp
 ·exact he
 ·exact g.ty p hp
 ·exact hs
 ·exact g.sh p hp
theorem d0_read0 (I : IsC c) (g : GR c bs) {q : Rw} (hq : q ∈ bs) (h : HR bs w) {es : Array Event} (hes : ∀ e ∈ es, ∃ k, e = ⟨.cell ⟨q.b, k, none⟩, false, false⟩) : D0 c Low w w es :=
 ⟨Nat.le_refl _, fun _ _ _ => rfl, fun e he => by
  obtain ⟨k, rfl⟩ := hes e he
  exact .inl ⟨⟨q.b, k, none⟩, false, rfl, g.wg q hq, g.cc q hq, notB I (h q hq) (g.ty q hq), g.sh q hq _ rfl, (fun h => by cases h), lt_of_heap (h q hq)⟩, id, rfl, rfl⟩
theorem g0_new (I : IsC c) (g : GR c bs) {fr : Frame} {a : Act} {k : List Item} {cs : List Frame} {ops : Array Oper} {j : Nat} {rest : List Nat} {o : Oper} {n : Nat} {Stop : Goroutine -> World -> Prop} {z : Array Value} {t : TypeId} (ho : ops[j]? = some o) (hw : Region.wanted o (yielded ops a.tmps) = true) (hk : fr.kind ≠ .early)
  (hr : ∀ w, (execOp a.eval o).run Tryz.prog w = .ok (.value (pt w.heap.size)) (w.alloc (.cells z t)) /\ (execOp a.eval o).events Tryz.prog w #[] = #[])
  (h : ∀ b, Low <= b -> (∀ q ∈ bs, q.b ≠ b) -> GoW Tryz.prog true (R0 c) (D0 c Low) Stop (F0 c Low (⟨b, z, t⟩ :: bs)) n (G (fr.at (a.put o.dst (pt b)) (.inRegion ops rest :: k)) cs)) : GoW Tryz.prog true (R0 c) (D0 c Low) Stop (F0 c Low bs) (n + 1) (G (fr.at a (.inRegion ops (j :: rest) :: k)) cs) :=
 fun _ hw' => Goes.step rfl fun w₁ h₁ => by
  have hF := (env0 (Low := Low) I g).cl _ _ hw' h₁
  rw [stepG_value ho hw hk (hr w₁).1]
  have hp : ∀ b o', w₁.heap[b]? = some o' -> (w₁.alloc (.cells z t)).heap[b]? = some o' := fun b o' hb => by
   have := lt_of_heap hb
   show (w₁.heap.push (.cells z t))[b]? = _
   rw [Array.getElem?_push_lt this, <- hb, Array.getElem?_eq_getElem this]
  refine ⟨⟨by show _ <= (w₁.heap.push _).size; simp, fun b hb _ => ?_, fun e he => ?_, fun ht b o' hb ho => ?_, rfl, rfl⟩, h w₁.heap.size hF.low (fun q hq => ?_) _ ⟨fun q hq => ?_, ?_, ?_⟩⟩
  ·show (w₁.heap.push (.cells z t))[b]? = _
   rw [Array.getElem?_push_lt hb, Array.getElem?_eq_getElem hb]
  ·have := mem_listed he
   rw [(hr w₁).2] at this
   simp at this
  ·replace ho : (w₁.heap.push (.cells z t))[b]? = some o' := ho
   rw [Array.getElem?_push] at ho
   split at ho
   ·cases ho
    exact ⟨_, _, rfl⟩
   ·exact ht b o' hb ho
  ·have := lt_of_heap (hF.rows q hq)
   omega
  ·rcases List.mem_cons.1 hq with rfl | hq
   ·show (w₁.heap.push (.cells z t))[w₁.heap.size]? = _
    rw [Array.getElem?_push_size]
   ·exact hp _ _ (hF.rows q hq)
  ·show _ <= (w₁.heap.push (.cells z t)).size
   have := hF.low
   simp
   omega
  ·obtain ⟨st, sm, e⟩ := hF.live
   exact ⟨st, sm, hp _ _ e⟩
theorem g0_store (I : IsC c) (L : Lo c Low) (g : GR c bs) {fr : Frame} {a : Act} {k : List Item} {cs : List Frame} {ops : Array Oper} {j : Nat} {rest : List Nat} {o : Oper} {n : Nat} {Stop : Goroutine -> World -> Prop} {b : Nat} {x y : Array Value} {t : TypeId} (ho : ops[j]? = some o) (hw : Region.wanted o (yielded ops a.tmps) = true) (hk : fr.kind ≠ .early) (hb : Low <= b) (hne : ∀ q ∈ bs, q.b ≠ b) (ht : t ≠ 4)
  (hr : ∀ w : World, w.heap[b]? = some (.cells x t) -> ∃ w', (execOp a.eval o).run Tryz.prog w = .ok .skip w' /\ (∀ e ∈ (execOp a.eval o).events Tryz.prog w #[], ∃ k, e = ⟨.cell ⟨b, k, none⟩, true, false⟩) /\ w'.heap[b]? = some (.cells y t) /\ (∀ b', b' ≠ b -> w'.heap[b']? = w.heap[b']?) /\ w'.heap.size = w.heap.size /\ w'.os = w.os /\ w'.output = w.output)
  (h : GoW Tryz.prog true (R0 c) (D0 c Low) Stop (F0 c Low (⟨b, y, t⟩ :: bs)) n (G (fr.at (a.put o.dst undef) (.inRegion ops rest :: k)) cs)) : GoW Tryz.prog true (R0 c) (D0 c Low) Stop (F0 c Low (⟨b, x, t⟩ :: bs)) (n + 1) (G (fr.at a (.inRegion ops (j :: rest) :: k)) cs) :=
 have g' : GR c (⟨b, x, t⟩ :: bs) := g.cons I L hb ht
 gw_store (env0 I g') ho hw hk (fun w hF => by
  obtain ⟨w', h1, h2, h3, h4, h5, h6⟩ := hr w hF.rows.head
  have hnb : ∀ b', b' ≠ b -> w'.heap[b']? = w.heap[b']? := h4
  refine ⟨w', h1, ⟨Nat.le_of_eq h5.symm, fun b' _ hb'' => hnb b' ?_, fun e he => ?_, fun ht b' o' hb1 ho => ?_, h6⟩, ⟨fun q hq => ?_, by rw [h5]; exact hF.low, ?_⟩⟩
  ·rintro rfl
   rcases hb'' with h | h
   ·omega
   ·exact notB I hF.rows.head ht h
  ·obtain ⟨k, rfl⟩ := h2 e (mem_listed he)
   have hh := g'.sh _ List.mem_cons_self
   exact .inl ⟨⟨b, k, none⟩, true, rfl, g'.wg _ List.mem_cons_self, g'.cc _ List.mem_cons_self, notB I hF.rows.head ht, hh _ rfl, fun _ => hb, lt_of_heap hF.rows.head⟩
  ·by_cases e : b' = b
   ·subst e
    rw [h3] at ho
    cases ho
    exact ⟨_, _, rfl⟩
   ·rw [hnb b' e] at ho
    exact ht b' o' hb1 ho
  ·rcases List.mem_cons.1 hq with rfl | hq
   ·exact h3
   ·exact (hnb _ (hne q hq)).trans (hF.rows.tail q hq)
  ·obtain ⟨st, sm, e⟩ := hF.live
   exact ⟨st, sm, (hnb _ (Ne.symm (g'.wg _ List.mem_cons_self))).trans e⟩) h
theorem run_alloc {o : Oper} {ev : Operand -> Value} {t : TypeId} {z : Value} (hop : o.op = .alloc t) (hz : ∀ w, Sem.run Tryz.prog (zeroValue t) w = .ok z w) (hze : ∀ w es, (zeroValue t).events Tryz.prog w es = es) (w : World) :
  (execOp ev o).run Tryz.prog w = .ok (.value (pt w.heap.size)) (w.alloc (.cells z.cells t)) /\ (execOp ev o).events Tryz.prog w #[] = #[] := by
 unfold execOp
 simp only [hop, Instr.alloc]
 constructor
 ·simp [hz, newVar, newRow]
 ·simp [hz, hze, newVar, newRow]
theorem run_box {o : Oper} {ev : Operand -> Value} {t : TypeId} {x : Operand} {v : Value} (hop : o.op = .box t x) (hx : ev x = v) (w : World) :
  (execOp ev o).run Tryz.prog w = .ok (.value (pt w.heap.size)) (w.alloc (.cells v.cells t)) /\ (execOp ev o).events Tryz.prog w #[] = #[] := by
 unfold execOp
 simp only [hop, hx, Instr.box]
 constructor
 ·simp [newVar, newRow]
 ·simp [newVar, newRow]
theorem ev_zero (t : TypeId) {i : TypeInfo} {z : Value} (hi : Tryz.prog.info? t = some i) (hz : i.zero = some z) (w : World) (es : Array Event) : (zeroValue t).events Tryz.prog w es = es := by
 simp [zeroValue, typeInfo, hi, hz]
end
theorem add_none (b off j : Nat) : (⟨b, off, none⟩ : Addr).add j = ⟨b, off + j, none⟩ := by
 unfold Addr.add
 split
 ·rename_i h
  simp_all
 ·rfl
def el (X : Array Value) (off : Nat) : Array Value := ((List.range 8).map fun j => X.getD (off + j) undef).toArray
theorem el_size (X : Array Value) (off : Nat) : (el X off).size = 8 := by simp [el]
theorem el_at (X : Array Value) (off j : Nat) (hj : j < 8) (h : off + j < X.size) : (el X off)[j]? = X[off + j]? := by
 simp [el, hj, h]
theorem ev_loads {P : Program} (a : Addr) : ∀ (n i : Nat) (acc : Array Value) (w : World) (es : Array Event), (∀ j, j < n -> ∃ v, w.cell? (a.add (i + j)) = some v) ->
  ∀ ev ∈ (loadCellsFrom a i n acc).events P w es, ev ∈ es \/ ∃ j, ev = ⟨.cell (a.add j), false, false⟩
 | 0, _, _, _, _, _ => fun ev h => .inl (by simpa [loadCellsFrom] using h)
 | n + 1, i, acc, w, es, hc => fun ev h => by
  obtain ⟨u, hu⟩ := hc 0 (by omega)
  rw [Nat.add_zero] at hu
  have hr : (load (a.add i)).run P w = .ok u w := by simp [hu]
  have he : (load (a.add i)).events P w es = es.push ⟨.cell (a.add i), false, false⟩ := by
   show (Sem.runT P (.load .plain (a.add i) .pure) w es).2 = _
   simp only [Sem.runT, hu]
   rfl
  simp only [loadCellsFrom, Sem.events_bind, hr, he] at h
  rcases ev_loads a n (i + 1) (acc.push u) w _ (fun j hj => by have := hc (j + 1) (by omega); rwa [show i + (j + 1) = i + 1 + j by omega] at this) ev h with h | h
  ·rcases Array.mem_push.1 h with h | rfl
   ·exact .inl h
   ·exact .inr ⟨i, rfl⟩
  ·exact .inr h
theorem ev_stores {P : Program} (g : Nat) (t : TypeId) : ∀ (vs : List Value) (i : Nat) (cur : Array Value) (w : World) (es : Array Event), w.heap[g]? = some (.cells cur t (0, 0)) -> i + vs.length <= cur.size -> (∀ v ∈ vs, v.oneCell' = true) ->
  ∀ ev ∈ (storeCells ⟨g, 0, none⟩ vs i).events P w es, ev ∈ es \/ ∃ k, ev = ⟨.cell ⟨g, k, none⟩, true, false⟩
 | [], _, _, _, _, _, _, _ => fun ev h => .inl (by simpa [storeCells] using h)
 | v :: rest, i, cur, w, es, hg, hl, h1 => fun ev h => by
  have hlt : i < cur.size := by simp at hl; omega
  have hv := h1 v List.mem_cons_self
  have hv1 : ∀ z, v ≠ .agg z := by rintro z rfl; simp [Value.oneCell'] at hv
  have hv2 : ∀ z, v ≠ .tuple z := by rintro z rfl; simp [Value.oneCell'] at hv
  have e : (⟨g, 0, none⟩ : Addr).add i = ⟨g, i, none⟩ := by rw [add_none, Nat.zero_add]
  have hs := run_store0 (P := P) (ad := ⟨g, i, none⟩) (w := w) (u := cur[i]) hv1 hv2 (by simp [World.cell?, hg, hlt]) (by simp [World.frozen?, hg])
  simp only [storeCells, Sem.events_bind, e, hs.1, hs.2] at h
  have hg' : (w.setCell ⟨g, i, none⟩ v).heap[g]? = some (.cells (cur.setIfInBounds i v) t (0, 0)) := by
   rw [setCell_eq_setRow w g i cur _ (0, 0) _ hg, setRow_heap w g _ _ _ _ hg]
  rcases ev_stores g t rest (i + 1) _ _ _ hg' (by simp at hl ⊢; omega) (fun x hx => h1 x (List.mem_cons_of_mem _ hx)) ev h with h | h
  ·rcases Array.mem_push.1 h with h | rfl
   ·exact .inl h
   ·exact .inr ⟨i, rfl⟩
  ·exact .inr h
theorem infoD31 : Tryz.prog.info? 52 = some Tryz.t52 := by kernel_rfl
theorem info3 : Tryz.prog.info? 3 = some Tryz.t3 := by kernel_rfl
theorem run_elem {o : Oper} {ev : Operand -> Value} {x : Operand} {b off : Nat} {X : Array Value} {w : World} (hop : o.op = .load 52 x) (hx : ev x = .pointer (some ⟨b, off, none⟩)) (hb : w.heap[b]? = some (.cells X 52)) (hl : off + 8 <= X.size) :
  (execOp ev o).run Tryz.prog w = .ok (.value (.agg (el X off))) w /\ ∀ e ∈ (execOp ev o).events Tryz.prog w #[], ∃ k, e = ⟨.cell ⟨b, k, none⟩, false, false⟩ := by
 have hc : ∀ j, j < 8 -> w.cell? ((⟨b, off, none⟩ : Addr).add j) = some (X.getD (off + j) undef) := fun j hj => by
  rw [add_none]
  simp [World.cell?, hb, show off + j < X.size by omega]
 have hr := run_loadCells (P := Tryz.prog) w ⟨b, off, none⟩ 8 _ hc
 unfold execOp
 simp only [hop, hx, Instr.loadAt, Instr.sureAddr, loadVar]
 constructor
 ·simp [Tryz.isAgg52, Tryz.sizeOf52, hr, el]
 ·intro e he
  have he' : e ∈ (loadCells ⟨b, off, none⟩ 8).events Tryz.prog w #[] := by
   simpa [Tryz.isAgg52, Tryz.sizeOf52, hr, go_sem] using he
  rcases ev_loads (P := Tryz.prog) ⟨b, off, none⟩ 8 0 #[] w #[] (fun j hj => ⟨_, by rw [Nat.zero_add]; exact hc j hj⟩) e he' with h | ⟨j, rfl⟩
  ·simp at h
  ·exact ⟨off + j, by rw [add_none]⟩
end Go.Mark
set_option maxRecDepth 100000
set_option maxHeartbeats 8000000
namespace Go.Phase
open Go.Conc Go.Walk Go.RowKit Go.Conc.Lib Go.ConcR.Gen Go.ConcN.Gen
open Go.ConcN (WgLive)
open Go.ConcR (KK WgAt stA smA rd wr mk Payload)
variable [Payload] {L : WgLink}
theorem addX {c : Cfg} (H : WgLib c.P L) {Low i : Nat} {Next : Goroutine -> World -> Prop} {X : World -> Prop} (hX : ∀ w w₁, X w -> R0 c w w₁ -> X w₁) {b₀ : Frame} {a₀ : Act} {ops₀ : Array Oper} {i₀ : Nat} {rest₀ : List Nat} {k₀ : List Item} {cs : List Frame} {mT : Nat}
  (hT : ∀ w, X w -> WgLive c.ty c.Wg w -> Goes c.P true (R0 c) (D0 c Low) (AtGo c i Next) mT (G (b₀.at (a₀.put ((ops₀[i₀]?).bind (·.dst)) (.tuple #[])) (.inRegion ops₀ rest₀ :: k₀)) cs) w) :
  GoW c.P true (R0 c) (D0 c Low) (AtKdS c Low i Next) (fun w => X w /\ WgLive c.ty c.Wg w) 40
   (G ((base L.add).at ⟨#[.pointer (some ⟨c.Wg, 0, none⟩), .int .i64 1] ++ Array.replicate 115 undef, []⟩ [.code (body_add L)]) (b₀.at a₀ (.inRegion ops₀ (i₀ :: rest₀) :: k₀) :: cs)) := by
 lib_facts
 have E := envX c Low hX
 simp only [body_add, addFn, Option.getD_some]
 walk_nrm
 repeat (first
  | refine gw_seq E ?_
  | refine gw_skip E ?_
  | refine gw_region_end E ?_
  | refine gw_region_1 E ?_
  | refine gw_region_2 E ?_
  | refine gw_region_4 E ?_
  | refine gw_region_5 E ?_
  | refine gw_region_6 E ?_
  | refine gw_region_7 E ?_
  | refine gw_region_8 E ?_
  | refine gw_region_10 E ?_
  | refine gw_region_12 E ?_
  | refine gw_true E rfl ?_
  | refine gw_false E rfl ?_
  | (refine gw_unwanted E rfl rfl ?_; walk_nrm)
  | refine gw_ret E ?_
  | (refine gw_pure E (.bool false) rfl rfl (by k_ne) rfl H.f_inBubble (x_inBubble_n L) (x_inBubble_b L) (x_inBubble_x L) (x_inBubble_f L) ?_; walk_nrm)
  | (refine gw_opk E rfl rfl (by k_ne) (fun w hF K hK => ?_); go_simp; refine hK _ (by simp [go_sem, *]) ?_; clear hK K hF w; try w_num))
 refine gw_stop E (fun w hF => ?_)
 refine ⟨rfl, _, stepG_mark0 .disable (by simp) rfl rfl (by k_ne) rfl H.f_disable (x_disable_n L) (x_disable_b L) (x_disable_x L) (x_disable_f L), 60, ?_⟩
 revert w
 show GoW c.P true (R0 c) (D0 c Low) (AtA1 c Low i Next) (fun w => X w /\ WgLive c.ty c.Wg w) 60 _
 walk_nrm
 repeat (first
  | refine gw_seq E ?_
  | refine gw_skip E ?_
  | refine gw_region_end E ?_
  | refine gw_region_1 E ?_
  | refine gw_region_2 E ?_
  | refine gw_region_4 E ?_
  | refine gw_region_5 E ?_
  | refine gw_region_6 E ?_
  | refine gw_region_7 E ?_
  | refine gw_region_8 E ?_
  | refine gw_region_10 E ?_
  | refine gw_region_12 E ?_
  | refine gw_true E rfl ?_
  | refine gw_false E rfl ?_
  | (refine gw_unwanted E rfl rfl ?_; walk_nrm)
  | refine gw_ret E ?_
  | (refine gw_call E rfl rfl (by k_ne) rfl H.f_uAdd (nm_uAdd L) rfl ?_; walk_nrmf uAddFn)
  | (refine gw_pure E (.bool false) rfl rfl (by k_ne) rfl H.f_inBubble (x_inBubble_n L) (x_inBubble_b L) (x_inBubble_x L) (x_inBubble_f L) ?_; walk_nrm)
  | (refine gw_defer E rfl rfl (by k_ne) rfl ?_; walk_nrm)
  | (refine gw_opk E rfl rfl (by k_ne) (fun w hF K hK => ?_); go_simp; refine hK _ (by simp [go_sem, *]) ?_; clear hK K hF w; try w_num))
 refine gw_stop E (fun w hF => ⟨rfl, fun v hv hw => ?_⟩)
 have hF' : ∀ y : Int, X (w.setCell (stA c.Wg) (.int .u64 y)) /\ WgLive c.ty c.Wg (w.setCell (stA c.Wg) (.int .u64 y)) := fun y =>
  have hl : WgLive c.ty c.Wg (w.setCell (stA c.Wg) (.int .u64 y)) := ⟨_, _, hw.setSt y⟩
  ⟨hX _ _ hF.1 (r0_aside (aside_setCell w (stA c.Wg) _) hl), hl⟩
 rcases Nat.eq_zero_or_pos v with rfl | hvp
 ·replace hw : WgAt c.ty c.Wg w 0 0 := by simpa using hw
  have z : (((0 : Nat) : Int) + 1) * KK = KK := by simp
  rw [z]
  have e0 : IntKind.u64.wrap (0 + 4294967296) = KK := by decide
  refine ⟨_, (stepG_add_atomic rfl rfl (by k_ne) rfl H.f_addU64 (x_addU64_n L) (x_addU64_b L) (x_addU64_x L) .u64 (x_addU64_f L) rfl rfl hw.cellSt (hw.thaw 0)).trans (by rw [e0]; rfl), 150, ?_⟩
  have hF2 := hF' KK
  generalize w.setCell (stA c.Wg) (.int .u64 KK) = w' at hF2 ⊢
  clear hw hF hF' hv e0 z w
  revert w'
  show GoW c.P true (R0 c) (D0 c Low) (AtKeS c Low i Next) (fun w => X w /\ WgLive c.ty c.Wg w) 150 _
  simp only [KK]
  walk_nrm
  repeat (first
   | refine gw_seq E ?_
   | refine gw_skip E ?_
   | refine gw_region_end E ?_
   | refine gw_region_1 E ?_
   | refine gw_region_2 E ?_
   | refine gw_region_4 E ?_
   | refine gw_region_5 E ?_
   | refine gw_region_6 E ?_
   | refine gw_region_7 E ?_
   | refine gw_region_8 E ?_
   | refine gw_region_10 E ?_
   | refine gw_region_12 E ?_
   | refine gw_true E rfl ?_
   | refine gw_false E rfl ?_
   | (refine gw_unwanted E rfl rfl ?_; walk_nrm)
   | refine gw_ret E ?_
   | (refine gw_leave1 E rfl rfl H.f_uAdd rfl ?_; walk_nrm)
   | (refine gw_pure E (.bool false) rfl rfl (by k_ne) rfl H.f_inBubble (x_inBubble_n L) (x_inBubble_b L) (x_inBubble_x L) (x_inBubble_f L) ?_; walk_nrm)
   | (refine gw_conv E rfl rfl (by k_ne) rfl rfl H.underlying_tPU32 H.underlying_tUP H.room_tU32 (fun w hF => live1 hF.2) ?_; walk_nrm)
   | (refine gw_ev E rfl (fun w _ => stepG_markAt .read (by simp) rfl rfl (by k_ne) rfl H.f_raceRead (x_raceRead_n L) (x_raceRead_b L) (x_raceRead_x L) (x_raceRead_f L) (ad := ⟨c.Wg, 1, none⟩) (by simp [Act.eval])) (fun w _ => d0_read c Low w _ rfl) ?_; walk_nrm)
   | (refine gw_opk E rfl rfl (by k_ne) (fun w hF K hK => ?_); go_simp; refine hK _ (by simp [go_sem, *]) ?_; clear hK K hF w; try w_num))
  refine gw_stop E (fun w hF => ?_)
  refine ⟨rfl, _, stepG_unwind_entry (v := .tuple #[]) (evs := #[mk .enable]) rfl H.f_enable (x_enable_n L) (x_enable_b L) (x_enable_x L) (x_enable_f L) (by simp [Extern.Race.none_]) (by simp [mk]) (by simp [mk]), mT + 1, ?_⟩
  revert w
  show GoW c.P true (R0 c) (D0 c Low) (AtGo c i Next) (fun w => X w /\ WgLive c.ty c.Wg w) (mT + 1) _
  refine gw_leave0 E rfl rfl H.f_add rfl ?_
  exact fun w hF => hT w hF.1 hF.2
 ·obtain ⟨V, hV⟩ : ∃ V : Int, V = (v : Int) + 1 := ⟨_, rfl⟩
  obtain ⟨S, hS⟩ : ∃ S : Int, S = V * KK := ⟨_, rfl⟩
  have eS : IntKind.u64.wrap ((v : Int) * KK + 4294967296) = S := by rw [IntKind.wrap_u64, hS, hV]; simp only [KK]; omega
  rw [<- hV, <- hS]
  have a1 : S / 4294967296 = V := by rw [hS]; simp only [KK]; omega
  have b1 : bits .and .u64 S 2147483648 = 0 := by rw [hS, hV]; have := Go.ConcN.st_flag (v + 1) 0 (by omega) (by omega); simpa [KK] using this
  have b2 : bits .and .u64 S 2147483647 = 0 := by rw [hS, hV]; have := Go.ConcN.st_waiters (v + 1) 0 (by omega) (by omega); simpa [KK] using this
  have c1 : IntKind.i32.wrap V = V := by rw [IntKind.wrap_i32]; omega
  have hV1 : 1 < V := by omega
  have hV2 : V < 2147483648 := by omega
  have q1 : (V == 1) = false := by simp; omega
  have q2 : decide (V = 1) = false := decide_eq_false (by omega)
  have q3 : decide (V < 0) = false := decide_eq_false (by omega)
  have q4 : decide (0 < V) = true := decide_eq_true (by omega)
  have q5 : (V == 0) = false := by simp; omega
  have q6 : decide (V = 0) = false := decide_eq_false (by omega)
  refine ⟨_, (stepG_add_atomic rfl rfl (by k_ne) rfl H.f_addU64 (x_addU64_n L) (x_addU64_b L) (x_addU64_x L) .u64 (x_addU64_f L) rfl rfl hw.cellSt (hw.thaw 0)).trans (by rw [eS]; rfl), 150, ?_⟩
  have hF2 := hF' S
  generalize w.setCell (stA c.Wg) (.int .u64 S) = w' at hF2 ⊢
  clear hw hF hF' hS hV eS w
  revert w'
  show GoW c.P true (R0 c) (D0 c Low) (AtKeS c Low i Next) (fun w => X w /\ WgLive c.ty c.Wg w) 150 _
  walk_nrm
  repeat (first
   | refine gw_seq E ?_
   | refine gw_skip E ?_
   | refine gw_region_end E ?_
   | refine gw_region_1 E ?_
   | refine gw_region_2 E ?_
   | refine gw_region_4 E ?_
   | refine gw_region_5 E ?_
   | refine gw_region_6 E ?_
   | refine gw_region_7 E ?_
   | refine gw_region_8 E ?_
   | refine gw_region_10 E ?_
   | refine gw_region_12 E ?_
   | refine gw_true E rfl ?_
   | refine gw_false E rfl ?_
   | (refine gw_unwanted E rfl rfl ?_; walk_nrm)
   | refine gw_ret E ?_
   | refine gw_true E (by simp [Act.eval]; omega) ?_
   | refine gw_false E (by simp [Act.eval]; omega) ?_
   | (refine gw_leave1 E rfl rfl H.f_uAdd rfl ?_; walk_nrm)
   | (refine gw_pure E (.bool false) rfl rfl (by k_ne) rfl H.f_inBubble (x_inBubble_n L) (x_inBubble_b L) (x_inBubble_x L) (x_inBubble_f L) ?_; walk_nrm)
   | (refine gw_opk E rfl rfl (by k_ne) (fun w hF K hK => ?_); go_simp; refine hK _ (by simp [go_sem, *]) ?_; clear hK K hF w; try w_num))
  refine gw_stop E (fun w hF => ?_)
  refine ⟨rfl, _, stepG_unwind_entry (v := .tuple #[]) (evs := #[mk .enable]) rfl H.f_enable (x_enable_n L) (x_enable_b L) (x_enable_x L) (x_enable_f L) (by simp [Extern.Race.none_]) (by simp [mk]) (by simp [mk]), mT + 1, ?_⟩
  revert w
  show GoW c.P true (R0 c) (D0 c Low) (AtGo c i Next) (fun w => X w /\ WgLive c.ty c.Wg w) (mT + 1) _
  refine gw_leave0 E rfl rfl H.f_add rfl ?_
  exact fun w hF => hT w hF.1 hF.2
end Go.Phase
