import Derived.Test.YtbephahokhnccaaGreatDoorXD4toD6
set_option linter.unusedSectionVars false
set_option maxRecDepth 100000
set_option maxHeartbeats 4000000
namespace Go.Mark
open Go.Conc Go.Walk Go.Phase Go.RowKit Go.Conc.Lib Go.ConcR.Gen Go.ConcN.Gen Go.Lift Go.Proofs
open Go.ConcN (WgLive Has RW DWs AtR0 PayAt)
open Go.ConcR (KK WgAt stA smA rd wr mk Payload)
structure WK (c : Cfg) (i bm bi ba bw bf : Nat) (s : ByteArray) (w : World) : Prop where
  mv : w.heap[bm]? = some (.cells #[sl c.C c.n] 122)
  iv : w.heap[bi]? = some (.cells #[.int .i64 (i : Int)] 3)
  av : ∃ x : Array Value, w.heap[ba]? = some (.cells x 52) /\ x[6]? = some (.string s)
  wv : w.heap[bw]? = some (.cells #[pt c.Wg] 234)
  fv : w.heap[bf]? = some (.cells #[.func (.func 98) #[] #[pt ba, pt bm, pt bi]] 1)
  live : WgLive 189 c.Wg w
  pay : PayAt c.C c.n w
structure Bx (c : Cfg) (Low bm bi ba bw bf : Nat) : Prop where
  m : Box c Low bm
  i : Box c Low bi
  a : Box c Low ba
  w : Box c Low bw
  f : Box c Low bf
section
variable {c : Cfg} (I : IsC c) {Low i bm bi ba bw bf : Nat} (B : Bx c Low bm bi ba bw bf) {s : ByteArray} {w w₁ : World} {own : Nat -> Prop}
theorem WK.rely (I : IsC c) (B : Bx c Low bm bi ba bw bf) (h : WK c i bm bi ba bw bf s w) (r : RX c Low i own w w₁) : WK c i bm bi ba bw bf s w₁ :=
  ⟨rx_box I B.m r h.mv (by decide), rx_box I B.i r h.iv (by decide), let ⟨x, h1, h2⟩ := h.av; ⟨x, rx_box I B.a r h1 (by decide), h2⟩, rx_box I B.w r h.wv (by decide), rx_box I B.f r h.fv (by decide), by have := r.live; rw [I.ty] at this; exact this h.live, r.pay h.pay⟩
theorem WK.other {b : Nat} (h : WK c i bm bi ba bw bf s w) (hb : ∀ b', b' ≠ b -> ∀ o : Obj, w.heap[b']? = some o -> w₁.heap[b']? = some o) (h1 : b ≠ bm) (h2 : b ≠ bi) (h3 : b ≠ ba) (h4 : b ≠ bw) (h5 : b ≠ bf) (h6 : b ≠ c.Wg) (h7 : b ≠ c.C) : WK c i bm bi ba bw bf s w₁ :=
  ⟨hb _ (Ne.symm h1) _ h.mv, hb _ (Ne.symm h2) _ h.iv, let ⟨x, e1, e2⟩ := h.av; ⟨x, hb _ (Ne.symm h3) _ e1, e2⟩, hb _ (Ne.symm h4) _ h.wv, hb _ (Ne.symm h5) _ h.fv,
   let ⟨st, sm, e⟩ := h.live; ⟨st, sm, hb _ (Ne.symm h6) _ e⟩, let ⟨cs, e1, e2⟩ := h.pay; ⟨cs, hb _ (Ne.symm h7) _ e1, e2⟩⟩
structure Frsh (c : Cfg) (bm bi ba bw bf b : Nat) : Prop where
  m : b ≠ bm
  i : b ≠ bi
  a : b ≠ ba
  w : b ≠ bw
  f : b ≠ bf
  g : b ≠ c.Wg
  c : b ≠ c.C
theorem WK.set {b p : Nat} (N : Frsh c bm bi ba bw bf b) (v : Value) (h : WK c i bm bi ba bw bf s w) : WK c i bm bi ba bw bf s (w.setCell ⟨b, p, none⟩ v) :=
  h.other (b := b) (fun b' hb _ ho => ((aside_setCell w ⟨b, p, none⟩ v).block b' hb).trans ho) N.m N.i N.a N.w N.f N.g N.c
theorem lt_of_heap {b : Nat} {o : Obj} (h : w.heap[b]? = some o) : b < w.heap.size := (Array.getElem?_eq_some_iff.1 h).1
theorem WK.fresh (h : WK c i bm bi ba bw bf s w) : Frsh c bm bi ba bw bf w.heap.size := by
  have f1 := lt_of_heap h.mv
  have f2 := lt_of_heap h.iv
  have f3 := lt_of_heap h.av.choose_spec.1
  have f4 := lt_of_heap h.wv
  have f5 := lt_of_heap h.fv
  obtain ⟨_, _, e⟩ := h.live
  have f6 := lt_of_heap e
  obtain ⟨_, e, _⟩ := h.pay
  have f7 := lt_of_heap e
  constructor <;> omega
theorem WK.alloc (h : WK c i bm bi ba bw bf s w) (o : Obj) : WK c i bm bi ba bw bf s (w.alloc o) := by
  have N := h.fresh
  refine h.other (b := w.heap.size) (fun b' hb o' ho => ?_) N.m N.i N.a N.w N.f N.g N.c
  have := lt_of_heap ho
  show (w.heap.push o)[b']? = _
  rw [Array.getElem?_push_lt this]
  rw [<- ho, Array.getElem?_eq_getElem this]
theorem da_nil (w : World) : DA c Low w w #[] := ⟨⟨w.drawn, rfl⟩, fun e he => by simp at he⟩
theorem envK (I : IsC c) (B : Bx c Low bm bi ba bw bf) : Env (RX c Low i own) (DA c Low) (WK c i bm bi ba bw bf s) := ⟨fun _ _ h r => h.rely I B r, fun w => da_nil w⟩
theorem envKM (I : IsC c) (B : Bx c Low bm bi ba bw bf) {b : Nat} (A : Array Value) : Env (RX c Low i (· = b)) (DB c Low b i) (FM (WK c i bm bi ba bw bf s) b A) := envM (fun _ _ h r => h.rely I B r) A
theorem info4 : Tryz.prog.info? 4 = some Tryz.t4 := by kernel_rfl
theorem run_mk (I : IsC c) {o : Oper} {ev : Operand -> Value} {x : Operand} (hop : o.op = .makeSlice 132 x x) (hx : ev x = .int .i64 (s.size : Int)) (h31 : s.size < 2147483648) (w : World) :
    (execOp ev o).run Tryz.prog w = .ok (.value (sl w.heap.size s.size)) (made c w (zeros s.size)) /\ (execOp ev o).events Tryz.prog w #[] = #[] := by
  have hr := run_make (P := Tryz.prog) w 132 4 Tryz.t4 (.bool false) Tryz.underlying132 info4 rfl .i64 .i64 s.size s.size (by omega) (by omega) (by simp only [Tryz.t4]; omega) (by omega)
  have he := events_make (P := Tryz.prog) w 132 4 Tryz.t4 (.bool false) Tryz.underlying132 info4 rfl .i64 .i64 s.size s.size (by omega) (by omega) (by simp only [Tryz.t4]; omega) (by omega) (by simp only [Tryz.t4]; omega) #[]
  simp only [Int.toNat_natCast, Tryz.t4, Nat.mul_one] at hr
  unfold execOp made zeros
  rw [I.tb]
  constructor
  · simp only [hop, hx, Sem.run_bind, hr]
    rfl
  · simp only [hop, hx, Sem.events_bind, hr, he]
    rfl
theorem find_pre (I : IsC c) (B : Bx c Low bm bi ba bw bf) {nT : Nat} {b₀ : Frame} {a₀ : Act} {ops₀ : Array Oper} {i₀ : Nat} {rest₀ : List Nat} {k₀ : List Item} {cs : List Frame} (h31 : s.size < 2147483648)
    (hN : ∀ b, Frsh c bm bi ba bw bf b -> GoW Tryz.prog false (RX c Low i (· = b)) (DB c Low b i) (AtOut c i b) (FM (WK c i bm bi ba bw bf s) b (marks s s.size 0 (zeros s.size))) nT (G (b₀.at (a₀.put ((ops₀[i₀]?).bind (·.dst)) (sl b s.size)) (.inRegion ops₀ rest₀ :: k₀)) cs)) :
    GoW Tryz.prog false (RX c Low i (fun _ => False)) (DA c Low) (AtMake c Low i (nT + 40 + 80 * s.size + 40)) (WK c i bm bi ba bw bf s) 40 (G ((base 99).at ⟨#[.string s] ++ Array.replicate 25 undef, []⟩ [.code (Tryz.f99.body.getD .skip)]) (b₀.at a₀ (.inRegion ops₀ (i₀ :: rest₀) :: k₀) :: cs)) := by
  have E := envK (own := fun _ => False) (s := s) (i := i) I B
  have e1 := fun w => ev_len w s
  obtain ⟨tl, htl⟩ : ∃ r, r = tail38 := ⟨_, rfl⟩
  have htl' := htl
  simp only [tail38, Tryz.f99] at htl'
  simp only [Tryz.f99, Option.getD_some]
  rw [<- htl']
  walk_nrm
  repeat (first
    | refine gw_seq E ?_
    | refine gw_region_end E ?_
    | refine gw_region_1 E ?_
    | refine gw_region_4 E ?_
    | (refine gw_opk E rfl rfl (by k_ne) (fun w hF K hK => ?_); go_simp; refine hK _ (by simp [go_sem, *]) ?_; clear hK K hF w; try w_num))
  refine gw_stop E (fun w hF => ?_)
  have N := hF.fresh
  have M := made_all I N.c (fun _ _ h r => h.rely I B r) (fun w p v h => h.set (p := p) N v) h31 (hN _ N)
  simp only [ops38, Tryz.f99] at M
  rw [<- htl] at M
  have hm := fun {o ev x} hop hx => run_mk (o := o) (ev := ev) (x := x) I hop hx h31 w
  unfold AtMake
  rw [I.P]
  refine ⟨rfl, _, zeros s.size, _, stepG_value rfl rfl (by k_ne) (hm rfl rfl).1, fun e he => ?_, M _ ⟨hF.alloc _, ?_⟩⟩
  · have he := mem_listed he
    rw [(hm rfl rfl).2] at he
    simp at he
  · show (w.heap.push (.cells (zeros s.size) c.tb))[w.heap.size]? = _
    rw [I.tb, Array.getElem?_push_size]
end
end Go.Mark
set_option maxRecDepth 100000
set_option maxHeartbeats 4000000
namespace Go.Mark
open Go.Conc Go.Walk Go.Phase Go.RowKit Go.Conc.Lib Go.ConcR.Gen Go.ConcN.Gen Go.Lift Go.Proofs
open Go.ConcN (WgLive Has RW DWs AtR0 PayAt)
open Go.ConcR (KK WgAt stA smA rd wr mk Payload)
def Ord (ops : Array Oper) (fuel : Nat) (listed : Array Bool) (l : List Nat) : Prop := ∃ t, l = Region.linearise.go .any ops fuel t listed []
theorem ord_cons {ops : Array Oper} {fuel : Nat} {listed : Array Bool} {l rs : List Nat} (h : Ord ops (fuel + 1) listed l) (hr : Region.ready .any ops listed = rs) (hne : rs ≠ []) : ∃ i ∈ rs, ∃ l', l = i :: l' /\ Ord ops fuel (listed.setIfInBounds i true) l' := by
 obtain ⟨t, rfl⟩ := h
 subst hr
 simp only [Region.linearise.go]
 have hlt : t % (Region.ready .any ops listed).length < (Region.ready .any ops listed).length := Nat.mod_lt _ (List.length_pos_iff.2 hne)
 refine ⟨(Region.ready .any ops listed)[t % (Region.ready .any ops listed).length], List.getElem_mem _, _, ?_, t / (Region.ready .any ops listed).length, rfl⟩
 change (match (Region.ready .any ops listed)[t % (Region.ready .any ops listed).length]? with
   | some i => Region.linearise.go .any ops fuel (t / (Region.ready .any ops listed).length) (listed.setIfInBounds i true) [i]
   | none => [].reverse) = _
 rw [List.getElem?_eq_getElem hlt]
 simp only []
 rw [linearise_go_acc, List.reverse_singleton, List.singleton_append]
theorem ord_nil {ops : Array Oper} {listed : Array Bool} {l : List Nat} (h : Ord ops 0 listed l) : l = [] := by
 obtain ⟨t, rfl⟩ := h
 rfl
theorem ord_of {ops : Array Oper} {n : Nat} {listed : Array Bool} (hn : ops.size = n) (hl : Array.replicate n false = listed) (t : Nat) : Ord ops n listed (Region.schedule true ops t) := by
 subst hn hl
 exact ⟨t, by simp only [Region.schedule, Bool.true_or, if_true]; rfl⟩
noncomputable def ops37 : Array Oper := match Tryz.f98.body with
 | some (.region _ o _) => o
 | _ => #[]
section
variable {c : Cfg} (I : IsC c) {Low i bm bi ba bw bf b : Nat} (B : Bx c Low bm bi ba bw bf) {s : ByteArray} {T47 : Array Value} {ops47 : Array Oper} {i₀ : Nat} {l : List Nat}
theorem db_cell (_ : IsC c) (_ : Bx c Low bm bi ba bw bf) (hi : i < c.n) (hbC : b ≠ c.C) {w : World} (hp : PayAt c.C c.n w) (v : Value) {es : Array Event} (hes : ∀ e ∈ es, e = ⟨.cell ⟨c.C, i, none⟩, true, false⟩) :
  ((∃ u, w.cell? ⟨c.C, i, none⟩ = some u) /\ w.frozen? ⟨c.C, i, none⟩ = false) /\ DB c Low b i w (w.setCell ⟨c.C, i, none⟩ v) es /\ Has c.C i v (w.setCell ⟨c.C, i, none⟩ v) /\ ∀ b', b' ≠ c.C -> (w.setCell ⟨c.C, i, none⟩ v).heap[b']? = w.heap[b']? := by
 have hA := aside_setCell w ⟨c.C, i, none⟩ v
 obtain ⟨arr, h1, h2⟩ := hp
 have hb : (w.setCell ⟨c.C, i, none⟩ v).heap[c.C]? = some (.cells (arr.setIfInBounds i v) Payload.ety) := by
  rw [setCell_eq_setRow w c.C i arr _ (0, 0) _ h1, setRow_heap w c.C _ _ _ _ h1]
 have hlt : i < arr.size := by omega
 refine ⟨⟨⟨arr[i], by simp [World.cell?, h1, hlt]⟩, by simp [World.frozen?, h1]⟩, ⟨hA.size, fun b' h3 h4 => hA.block b' h4, fun ⟨x, f, hx⟩ => ⟨x, f, (hA.block b hbC).trans hx⟩, fun _ => ⟨_, hb, by simpa using h2⟩, fun i' hi' => ?_, fun e he => .inr ⟨⟨c.C, i, none⟩, true, hes e he, .inr rfl⟩, tidy_set _ _ _, hA.os, hA.output⟩, ?_, fun b' hb' => hA.block b' hb'⟩
 ·simp [World.cell?, hb, h1, Array.getElem?_setIfInBounds_ne (Ne.symm hi')]
 ·simp [Has, World.cell?, hb, hlt]
theorem da_read {w : World} {es : Array Event} (h : ∀ e ∈ es, EvR c Low w e) : DA c Low w w es := ⟨⟨w.drawn, rfl⟩, h⟩
theorem read_a (I : IsC c) {w : World} {fn : FuncId} {a : Act} {o : Oper} {b' k : Nat} {x : Array Value} {e : TypeId} {f : Nat × Nat} (Bb : Box c Low b') (h : w.heap[b']? = some (.cells x e f)) (he : e ≠ 4) (hev : (execOp a.eval o).events Tryz.prog w #[] = #[⟨.cell ⟨b', k, none⟩, false, false⟩]) :
  ∀ e' ∈ listed Tryz.prog fn a o w, EvR c Low w e' := fun e' hm => by
 have hm := mem_listed hm
 rw [hev, Array.mem_singleton] at hm
 subst hm
 exact evr_box I Bb h he
theorem B113 (I : IsC c) (B : Bx c Low bm bi ba bw bf) (hi : i < c.n) (hOut : ∀ (w : World) (b : Nat), w.heap[b]? = some (.cells (marks s s.size 0 (zeros s.size)) 4) -> w.cell? ⟨c.C, i, none⟩ = some (sl b s.size) -> c.Out i b w) (N : Frsh c bm bi ba bw bf b) (hl : Ord ops37 2 #[true, true, true, true, true, false, false] l) :
  GoW Tryz.prog false (RX c Low i (· = b)) (DB c Low b i) (AtOut c i b) (FM (WK c i bm bi ba bw bf s) b (marks s s.size 0 (zeros s.size))) 140 (G ((base 98).at ⟨#[pt ba, pt bm, pt bi, sl c.C c.n, .int .i64 (i : Int), .pointer (some ⟨ba, 6, none⟩), .string s, sl b s.size, undef], []⟩ [.inRegion ops37 l]) [(baseD 144).at ⟨T47, [dclo 145 #[pt bw]]⟩ [.inRegion ops47 [i₀]], bot]) := by
 have E := envKM (s := s) (i := i) (b := b) I B (marks s s.size 0 (zeros s.size))
 obtain ⟨j, hj, l', rfl, hl'⟩ := ord_cons hl (rs := [5]) (by kernel_rfl) (by simp)
 simp only [List.mem_cons, List.not_mem_nil, or_false] at hj
 rcases hj with rfl
 ·have c1 : (i : Int) < (c.n : Int) := by omega
  refine gw_opk E rfl rfl (by k_ne) (n := 139) (fun w hF K hK => ?_)
  simp only [ops37, Tryz.f98] at hK ⊢
  go_simp
  refine hK _ (by simp [go_sem, *]) ?_
  clear hK K hF w
  obtain ⟨j, hj, l2, rfl, hl2⟩ := ord_cons hl' (rs := [6]) (by kernel_rfl) (by simp)
  simp only [List.mem_cons, List.not_mem_nil, or_false] at hj
  subst hj
  have e0 := ord_nil hl2
  subst e0
  refine gw_store1 E (v := sl b s.size) (F' := FT c i b bw (sl b s.size)) rfl rfl (by k_ne) rfl rfl rfl (fun _ => by simp) (fun _ => by simp) Tryz.sizeOf132 (n := 138) (fun w hF => ?_) ?_
  ·have hd := fun es hes => db_cell (Low := Low) (b := b) I B hi N.c hF.x.pay (sl b s.size) (es := es) hes
   obtain ⟨⟨hu, hz⟩, _, hh, ho⟩ := hd #[] (fun e he => by simp at he)
   refine ⟨hu, hz, fun es hes => (hd es hes).2.1, ⟨?_, hh, (ho bw B.w.cc).trans hF.x.wv, hOut _ b ((ho b N.c).trans hF.blk) hh⟩⟩
   obtain ⟨st, sm, hl⟩ := hF.x.live
   exact ⟨st, sm, (ho c.Wg I.geo.hCW.symm).trans hl⟩
  have E' := envT (b := b) (i := i) (val := sl b s.size) I B.w
  refine gw_region_end E' ?_
  exact gw_up E' (tail I B.w) (by omega)
theorem B103 (I : IsC c) (B : Bx c Low bm bi ba bw bf) (hi : i < c.n) (hOut : ∀ (w : World) (b : Nat), w.heap[b]? = some (.cells (marks s s.size 0 (zeros s.size)) 4) -> w.cell? ⟨c.C, i, none⟩ = some (sl b s.size) -> c.Out i b w) (N : Frsh c bm bi ba bw bf b) (hl : Ord ops37 3 #[true, false, true, true, true, false, false] l) :
  GoW Tryz.prog false (RX c Low i (· = b)) (DB c Low b i) (AtOut c i b) (FM (WK c i bm bi ba bw bf s) b (marks s s.size 0 (zeros s.size))) 145 (G ((base 98).at ⟨#[pt ba, pt bm, pt bi, sl c.C c.n, undef, .pointer (some ⟨ba, 6, none⟩), .string s, sl b s.size, undef], []⟩ [.inRegion ops37 l]) [(baseD 144).at ⟨T47, [dclo 145 #[pt bw]]⟩ [.inRegion ops47 [i₀]], bot]) := by
 have E := envKM (s := s) (i := i) (b := b) I B (marks s s.size 0 (zeros s.size))
 obtain ⟨j, hj, l', rfl, hl'⟩ := ord_cons hl (rs := [1]) (by kernel_rfl) (by simp)
 simp only [List.mem_cons, List.not_mem_nil, or_false] at hj
 rcases hj with rfl
 ·refine gw_reads E rfl rfl (by k_ne) (fun w hF => (run_load1 rfl rfl Tryz.sizeOf3 Tryz.isAgg3 (cell_of hF.x.iv)).1) (fun w hF => db_read (read_a I B.i hF.x.iv (by decide) (run_load1 rfl rfl Tryz.sizeOf3 Tryz.isAgg3 (cell_of hF.x.iv)).2)) (n := 144) ?_
  exact gw_up E (B113 I B hi hOut N hl') (by omega)
theorem B013 (I : IsC c) (B : Bx c Low bm bi ba bw bf) (hi : i < c.n) (hOut : ∀ (w : World) (b : Nat), w.heap[b]? = some (.cells (marks s s.size 0 (zeros s.size)) 4) -> w.cell? ⟨c.C, i, none⟩ = some (sl b s.size) -> c.Out i b w) (N : Frsh c bm bi ba bw bf b) (hl : Ord ops37 3 #[false, true, true, true, true, false, false] l) :
  GoW Tryz.prog false (RX c Low i (· = b)) (DB c Low b i) (AtOut c i b) (FM (WK c i bm bi ba bw bf s) b (marks s s.size 0 (zeros s.size))) 145 (G ((base 98).at ⟨#[pt ba, pt bm, pt bi, undef, .int .i64 (i : Int), .pointer (some ⟨ba, 6, none⟩), .string s, sl b s.size, undef], []⟩ [.inRegion ops37 l]) [(baseD 144).at ⟨T47, [dclo 145 #[pt bw]]⟩ [.inRegion ops47 [i₀]], bot]) := by
 have E := envKM (s := s) (i := i) (b := b) I B (marks s s.size 0 (zeros s.size))
 obtain ⟨j, hj, l', rfl, hl'⟩ := ord_cons hl (rs := [0]) (by kernel_rfl) (by simp)
 simp only [List.mem_cons, List.not_mem_nil, or_false] at hj
 rcases hj with rfl
 ·refine gw_reads E rfl rfl (by k_ne) (fun w hF => (run_load1 rfl rfl Tryz.sizeOf122 Tryz.isAgg122 (cell_of hF.x.mv)).1) (fun w hF => db_read (read_a I B.m hF.x.mv (by decide) (run_load1 rfl rfl Tryz.sizeOf122 Tryz.isAgg122 (cell_of hF.x.mv)).2)) (n := 144) ?_
  exact gw_up E (B113 I B hi hOut N hl') (by omega)
theorem B003 (I : IsC c) (B : Bx c Low bm bi ba bw bf) (hi : i < c.n) (hOut : ∀ (w : World) (b : Nat), w.heap[b]? = some (.cells (marks s s.size 0 (zeros s.size)) 4) -> w.cell? ⟨c.C, i, none⟩ = some (sl b s.size) -> c.Out i b w) (N : Frsh c bm bi ba bw bf b) (hl : Ord ops37 4 #[false, false, true, true, true, false, false] l) :
  GoW Tryz.prog false (RX c Low i (· = b)) (DB c Low b i) (AtOut c i b) (FM (WK c i bm bi ba bw bf s) b (marks s s.size 0 (zeros s.size))) 150 (G ((base 98).at ⟨#[pt ba, pt bm, pt bi, undef, undef, .pointer (some ⟨ba, 6, none⟩), .string s, sl b s.size, undef], []⟩ [.inRegion ops37 l]) [(baseD 144).at ⟨T47, [dclo 145 #[pt bw]]⟩ [.inRegion ops47 [i₀]], bot]) := by
 have E := envKM (s := s) (i := i) (b := b) I B (marks s s.size 0 (zeros s.size))
 obtain ⟨j, hj, l', rfl, hl'⟩ := ord_cons hl (rs := [0, 1]) (by kernel_rfl) (by simp)
 simp only [List.mem_cons, List.not_mem_nil, or_false] at hj
 rcases hj with rfl | rfl
 ·refine gw_reads E rfl rfl (by k_ne) (fun w hF => (run_load1 rfl rfl Tryz.sizeOf122 Tryz.isAgg122 (cell_of hF.x.mv)).1) (fun w hF => db_read (read_a I B.m hF.x.mv (by decide) (run_load1 rfl rfl Tryz.sizeOf122 Tryz.isAgg122 (cell_of hF.x.mv)).2)) (n := 149) ?_
  exact gw_up E (B103 I B hi hOut N hl') (by omega)
 ·refine gw_reads E rfl rfl (by k_ne) (fun w hF => (run_load1 rfl rfl Tryz.sizeOf3 Tryz.isAgg3 (cell_of hF.x.iv)).1) (fun w hF => db_read (read_a I B.i hF.x.iv (by decide) (run_load1 rfl rfl Tryz.sizeOf3 Tryz.isAgg3 (cell_of hF.x.iv)).2)) (n := 149) ?_
  exact gw_up E (B013 I B hi hOut N hl') (by omega)
theorem A112 (I : IsC c) (B : Bx c Low bm bi ba bw bf) (hi : i < c.n) (h31 : s.size < 2147483648) (hOut : ∀ (w : World) (b : Nat), w.heap[b]? = some (.cells (marks s s.size 0 (zeros s.size)) 4) -> w.cell? ⟨c.C, i, none⟩ = some (sl b s.size) -> c.Out i b w) (hl : Ord ops37 3 #[true, true, true, true, false, false, false] l) :
  GoW Tryz.prog false (RX c Low i (fun _ => False)) (DA c Low) (AtMake c Low i (150 + 40 + 80 * s.size + 40)) (WK c i bm bi ba bw bf s) 60 (G ((base 98).at ⟨#[pt ba, pt bm, pt bi, sl c.C c.n, .int .i64 (i : Int), .pointer (some ⟨ba, 6, none⟩), .string s, undef, undef], []⟩ [.inRegion ops37 l]) [(baseD 144).at ⟨T47, [dclo 145 #[pt bw]]⟩ [.inRegion ops47 [i₀]], bot]) := by
 have E := envK (own := fun _ => False) (s := s) (i := i) I B
 obtain ⟨j, hj, l', rfl, hl'⟩ := ord_cons hl (rs := [4]) (by kernel_rfl) (by simp)
 simp only [List.mem_cons, List.not_mem_nil, or_false] at hj
 rcases hj with rfl
 ·refine gw_call E rfl rfl (by k_ne) rfl Tryz.func99 nm38 (c := Tryz.f99.body.getD .skip) rfl (n := 59) ?_
  walk_nrm
  rw [show Tryz.f99.ntmps - 1 = 25 from rfl]
  refine gw_up E (find_pre I B (nT := 150) h31 (fun b N => ?_)) (by omega)
  exact gw_up (envKM I B _) (B113 I B hi hOut N hl') (by omega)
theorem A102 (I : IsC c) (B : Bx c Low bm bi ba bw bf) (hi : i < c.n) (h31 : s.size < 2147483648) (hOut : ∀ (w : World) (b : Nat), w.heap[b]? = some (.cells (marks s s.size 0 (zeros s.size)) 4) -> w.cell? ⟨c.C, i, none⟩ = some (sl b s.size) -> c.Out i b w) (hl : Ord ops37 4 #[true, false, true, true, false, false, false] l) :
  GoW Tryz.prog false (RX c Low i (fun _ => False)) (DA c Low) (AtMake c Low i (150 + 40 + 80 * s.size + 40)) (WK c i bm bi ba bw bf s) 62 (G ((base 98).at ⟨#[pt ba, pt bm, pt bi, sl c.C c.n, undef, .pointer (some ⟨ba, 6, none⟩), .string s, undef, undef], []⟩ [.inRegion ops37 l]) [(baseD 144).at ⟨T47, [dclo 145 #[pt bw]]⟩ [.inRegion ops47 [i₀]], bot]) := by
 have E := envK (own := fun _ => False) (s := s) (i := i) I B
 obtain ⟨j, hj, l', rfl, hl'⟩ := ord_cons hl (rs := [1, 4]) (by kernel_rfl) (by simp)
 simp only [List.mem_cons, List.not_mem_nil, or_false] at hj
 rcases hj with rfl | rfl
 ·refine gw_reads E rfl rfl (by k_ne) (fun w hF => (run_load1 rfl rfl Tryz.sizeOf3 Tryz.isAgg3 (cell_of hF.iv)).1) (fun w hF => da_read (read_a I B.i hF.iv (by decide) (run_load1 rfl rfl Tryz.sizeOf3 Tryz.isAgg3 (cell_of hF.iv)).2)) (n := 61) ?_
  exact gw_up E (A112 I B hi h31 hOut hl') (by omega)
 ·refine gw_call E rfl rfl (by k_ne) rfl Tryz.func99 nm38 (c := Tryz.f99.body.getD .skip) rfl (n := 61) ?_
  walk_nrm
  rw [show Tryz.f99.ntmps - 1 = 25 from rfl]
  refine gw_up E (find_pre I B (nT := 150) h31 (fun b N => ?_)) (by omega)
  exact gw_up (envKM I B _) (B103 I B hi hOut N hl') (by omega)
theorem A012 (I : IsC c) (B : Bx c Low bm bi ba bw bf) (hi : i < c.n) (h31 : s.size < 2147483648) (hOut : ∀ (w : World) (b : Nat), w.heap[b]? = some (.cells (marks s s.size 0 (zeros s.size)) 4) -> w.cell? ⟨c.C, i, none⟩ = some (sl b s.size) -> c.Out i b w) (hl : Ord ops37 4 #[false, true, true, true, false, false, false] l) :
  GoW Tryz.prog false (RX c Low i (fun _ => False)) (DA c Low) (AtMake c Low i (150 + 40 + 80 * s.size + 40)) (WK c i bm bi ba bw bf s) 62 (G ((base 98).at ⟨#[pt ba, pt bm, pt bi, undef, .int .i64 (i : Int), .pointer (some ⟨ba, 6, none⟩), .string s, undef, undef], []⟩ [.inRegion ops37 l]) [(baseD 144).at ⟨T47, [dclo 145 #[pt bw]]⟩ [.inRegion ops47 [i₀]], bot]) := by
 have E := envK (own := fun _ => False) (s := s) (i := i) I B
 obtain ⟨j, hj, l', rfl, hl'⟩ := ord_cons hl (rs := [0, 4]) (by kernel_rfl) (by simp)
 simp only [List.mem_cons, List.not_mem_nil, or_false] at hj
 rcases hj with rfl | rfl
 ·refine gw_reads E rfl rfl (by k_ne) (fun w hF => (run_load1 rfl rfl Tryz.sizeOf122 Tryz.isAgg122 (cell_of hF.mv)).1) (fun w hF => da_read (read_a I B.m hF.mv (by decide) (run_load1 rfl rfl Tryz.sizeOf122 Tryz.isAgg122 (cell_of hF.mv)).2)) (n := 61) ?_
  exact gw_up E (A112 I B hi h31 hOut hl') (by omega)
 ·refine gw_call E rfl rfl (by k_ne) rfl Tryz.func99 nm38 (c := Tryz.f99.body.getD .skip) rfl (n := 61) ?_
  walk_nrm
  rw [show Tryz.f99.ntmps - 1 = 25 from rfl]
  refine gw_up E (find_pre I B (nT := 150) h31 (fun b N => ?_)) (by omega)
  exact gw_up (envKM I B _) (B013 I B hi hOut N hl') (by omega)
theorem A002 (I : IsC c) (B : Bx c Low bm bi ba bw bf) (hi : i < c.n) (h31 : s.size < 2147483648) (hOut : ∀ (w : World) (b : Nat), w.heap[b]? = some (.cells (marks s s.size 0 (zeros s.size)) 4) -> w.cell? ⟨c.C, i, none⟩ = some (sl b s.size) -> c.Out i b w) (hl : Ord ops37 5 #[false, false, true, true, false, false, false] l) :
  GoW Tryz.prog false (RX c Low i (fun _ => False)) (DA c Low) (AtMake c Low i (150 + 40 + 80 * s.size + 40)) (WK c i bm bi ba bw bf s) 64 (G ((base 98).at ⟨#[pt ba, pt bm, pt bi, undef, undef, .pointer (some ⟨ba, 6, none⟩), .string s, undef, undef], []⟩ [.inRegion ops37 l]) [(baseD 144).at ⟨T47, [dclo 145 #[pt bw]]⟩ [.inRegion ops47 [i₀]], bot]) := by
 have E := envK (own := fun _ => False) (s := s) (i := i) I B
 obtain ⟨j, hj, l', rfl, hl'⟩ := ord_cons hl (rs := [0, 1, 4]) (by kernel_rfl) (by simp)
 simp only [List.mem_cons, List.not_mem_nil, or_false] at hj
 rcases hj with rfl | rfl | rfl
 ·refine gw_reads E rfl rfl (by k_ne) (fun w hF => (run_load1 rfl rfl Tryz.sizeOf122 Tryz.isAgg122 (cell_of hF.mv)).1) (fun w hF => da_read (read_a I B.m hF.mv (by decide) (run_load1 rfl rfl Tryz.sizeOf122 Tryz.isAgg122 (cell_of hF.mv)).2)) (n := 63) ?_
  exact gw_up E (A102 I B hi h31 hOut hl') (by omega)
 ·refine gw_reads E rfl rfl (by k_ne) (fun w hF => (run_load1 rfl rfl Tryz.sizeOf3 Tryz.isAgg3 (cell_of hF.iv)).1) (fun w hF => da_read (read_a I B.i hF.iv (by decide) (run_load1 rfl rfl Tryz.sizeOf3 Tryz.isAgg3 (cell_of hF.iv)).2)) (n := 63) ?_
  exact gw_up E (A012 I B hi h31 hOut hl') (by omega)
 ·refine gw_call E rfl rfl (by k_ne) rfl Tryz.func99 nm38 (c := Tryz.f99.body.getD .skip) rfl (n := 63) ?_
  walk_nrm
  rw [show Tryz.f99.ntmps - 1 = 25 from rfl]
  refine gw_up E (find_pre I B (nT := 150) h31 (fun b N => ?_)) (by omega)
  exact gw_up (envKM I B _) (B003 I B hi hOut N hl') (by omega)
theorem A111 (I : IsC c) (B : Bx c Low bm bi ba bw bf) (hi : i < c.n) (h31 : s.size < 2147483648) (hOut : ∀ (w : World) (b : Nat), w.heap[b]? = some (.cells (marks s s.size 0 (zeros s.size)) 4) -> w.cell? ⟨c.C, i, none⟩ = some (sl b s.size) -> c.Out i b w) (hl : Ord ops37 4 #[true, true, true, false, false, false, false] l) :
  GoW Tryz.prog false (RX c Low i (fun _ => False)) (DA c Low) (AtMake c Low i (150 + 40 + 80 * s.size + 40)) (WK c i bm bi ba bw bf s) 62 (G ((base 98).at ⟨#[pt ba, pt bm, pt bi, sl c.C c.n, .int .i64 (i : Int), .pointer (some ⟨ba, 6, none⟩), undef, undef, undef], []⟩ [.inRegion ops37 l]) [(baseD 144).at ⟨T47, [dclo 145 #[pt bw]]⟩ [.inRegion ops47 [i₀]], bot]) := by
 have E := envK (own := fun _ => False) (s := s) (i := i) I B
 obtain ⟨j, hj, l', rfl, hl'⟩ := ord_cons hl (rs := [3]) (by kernel_rfl) (by simp)
 simp only [List.mem_cons, List.not_mem_nil, or_false] at hj
 rcases hj with rfl
 ·refine gw_reads E (v := .string s) rfl rfl (by k_ne) (fun w hF => ?_) (fun w hF => ?_) (n := 61) ?_
  ·obtain ⟨x, h1, h2⟩ := hF.av
   exact (run_load1 rfl rfl Tryz.sizeOf9 Tryz.isAgg9 (by simp [World.cell?, h1, h2])).1
  ·obtain ⟨x, h1, h2⟩ := hF.av
   exact da_read (read_a I B.a h1 (by decide) (run_load1 (v := .string s) rfl rfl Tryz.sizeOf9 Tryz.isAgg9 (by simp [World.cell?, h1, h2])).2)
  exact gw_up E (A112 I B hi h31 hOut hl') (by omega)
theorem A101 (I : IsC c) (B : Bx c Low bm bi ba bw bf) (hi : i < c.n) (h31 : s.size < 2147483648) (hOut : ∀ (w : World) (b : Nat), w.heap[b]? = some (.cells (marks s s.size 0 (zeros s.size)) 4) -> w.cell? ⟨c.C, i, none⟩ = some (sl b s.size) -> c.Out i b w) (hl : Ord ops37 5 #[true, false, true, false, false, false, false] l) :
  GoW Tryz.prog false (RX c Low i (fun _ => False)) (DA c Low) (AtMake c Low i (150 + 40 + 80 * s.size + 40)) (WK c i bm bi ba bw bf s) 64 (G ((base 98).at ⟨#[pt ba, pt bm, pt bi, sl c.C c.n, undef, .pointer (some ⟨ba, 6, none⟩), undef, undef, undef], []⟩ [.inRegion ops37 l]) [(baseD 144).at ⟨T47, [dclo 145 #[pt bw]]⟩ [.inRegion ops47 [i₀]], bot]) := by
 have E := envK (own := fun _ => False) (s := s) (i := i) I B
 obtain ⟨j, hj, l', rfl, hl'⟩ := ord_cons hl (rs := [1, 3]) (by kernel_rfl) (by simp)
 simp only [List.mem_cons, List.not_mem_nil, or_false] at hj
 rcases hj with rfl | rfl
 ·refine gw_reads E rfl rfl (by k_ne) (fun w hF => (run_load1 rfl rfl Tryz.sizeOf3 Tryz.isAgg3 (cell_of hF.iv)).1) (fun w hF => da_read (read_a I B.i hF.iv (by decide) (run_load1 rfl rfl Tryz.sizeOf3 Tryz.isAgg3 (cell_of hF.iv)).2)) (n := 63) ?_
  exact gw_up E (A111 I B hi h31 hOut hl') (by omega)
 ·refine gw_reads E (v := .string s) rfl rfl (by k_ne) (fun w hF => ?_) (fun w hF => ?_) (n := 63) ?_
  ·obtain ⟨x, h1, h2⟩ := hF.av
   exact (run_load1 rfl rfl Tryz.sizeOf9 Tryz.isAgg9 (by simp [World.cell?, h1, h2])).1
  ·obtain ⟨x, h1, h2⟩ := hF.av
   exact da_read (read_a I B.a h1 (by decide) (run_load1 (v := .string s) rfl rfl Tryz.sizeOf9 Tryz.isAgg9 (by simp [World.cell?, h1, h2])).2)
  exact gw_up E (A102 I B hi h31 hOut hl') (by omega)
theorem A011 (I : IsC c) (B : Bx c Low bm bi ba bw bf) (hi : i < c.n) (h31 : s.size < 2147483648) (hOut : ∀ (w : World) (b : Nat), w.heap[b]? = some (.cells (marks s s.size 0 (zeros s.size)) 4) -> w.cell? ⟨c.C, i, none⟩ = some (sl b s.size) -> c.Out i b w) (hl : Ord ops37 5 #[false, true, true, false, false, false, false] l) :
  GoW Tryz.prog false (RX c Low i (fun _ => False)) (DA c Low) (AtMake c Low i (150 + 40 + 80 * s.size + 40)) (WK c i bm bi ba bw bf s) 64 (G ((base 98).at ⟨#[pt ba, pt bm, pt bi, undef, .int .i64 (i : Int), .pointer (some ⟨ba, 6, none⟩), undef, undef, undef], []⟩ [.inRegion ops37 l]) [(baseD 144).at ⟨T47, [dclo 145 #[pt bw]]⟩ [.inRegion ops47 [i₀]], bot]) := by
 have E := envK (own := fun _ => False) (s := s) (i := i) I B
 obtain ⟨j, hj, l', rfl, hl'⟩ := ord_cons hl (rs := [0, 3]) (by kernel_rfl) (by simp)
 simp only [List.mem_cons, List.not_mem_nil, or_false] at hj
 rcases hj with rfl | rfl
 ·refine gw_reads E rfl rfl (by k_ne) (fun w hF => (run_load1 rfl rfl Tryz.sizeOf122 Tryz.isAgg122 (cell_of hF.mv)).1) (fun w hF => da_read (read_a I B.m hF.mv (by decide) (run_load1 rfl rfl Tryz.sizeOf122 Tryz.isAgg122 (cell_of hF.mv)).2)) (n := 63) ?_
  exact gw_up E (A111 I B hi h31 hOut hl') (by omega)
 ·refine gw_reads E (v := .string s) rfl rfl (by k_ne) (fun w hF => ?_) (fun w hF => ?_) (n := 63) ?_
  ·obtain ⟨x, h1, h2⟩ := hF.av
   exact (run_load1 rfl rfl Tryz.sizeOf9 Tryz.isAgg9 (by simp [World.cell?, h1, h2])).1
  ·obtain ⟨x, h1, h2⟩ := hF.av
   exact da_read (read_a I B.a h1 (by decide) (run_load1 (v := .string s) rfl rfl Tryz.sizeOf9 Tryz.isAgg9 (by simp [World.cell?, h1, h2])).2)
  exact gw_up E (A012 I B hi h31 hOut hl') (by omega)
theorem A001 (I : IsC c) (B : Bx c Low bm bi ba bw bf) (hi : i < c.n) (h31 : s.size < 2147483648) (hOut : ∀ (w : World) (b : Nat), w.heap[b]? = some (.cells (marks s s.size 0 (zeros s.size)) 4) -> w.cell? ⟨c.C, i, none⟩ = some (sl b s.size) -> c.Out i b w) (hl : Ord ops37 6 #[false, false, true, false, false, false, false] l) :
  GoW Tryz.prog false (RX c Low i (fun _ => False)) (DA c Low) (AtMake c Low i (150 + 40 + 80 * s.size + 40)) (WK c i bm bi ba bw bf s) 66 (G ((base 98).at ⟨#[pt ba, pt bm, pt bi, undef, undef, .pointer (some ⟨ba, 6, none⟩), undef, undef, undef], []⟩ [.inRegion ops37 l]) [(baseD 144).at ⟨T47, [dclo 145 #[pt bw]]⟩ [.inRegion ops47 [i₀]], bot]) := by
 have E := envK (own := fun _ => False) (s := s) (i := i) I B
 obtain ⟨j, hj, l', rfl, hl'⟩ := ord_cons hl (rs := [0, 1, 3]) (by kernel_rfl) (by simp)
 simp only [List.mem_cons, List.not_mem_nil, or_false] at hj
 rcases hj with rfl | rfl | rfl
 ·refine gw_reads E rfl rfl (by k_ne) (fun w hF => (run_load1 rfl rfl Tryz.sizeOf122 Tryz.isAgg122 (cell_of hF.mv)).1) (fun w hF => da_read (read_a I B.m hF.mv (by decide) (run_load1 rfl rfl Tryz.sizeOf122 Tryz.isAgg122 (cell_of hF.mv)).2)) (n := 65) ?_
  exact gw_up E (A101 I B hi h31 hOut hl') (by omega)
 ·refine gw_reads E rfl rfl (by k_ne) (fun w hF => (run_load1 rfl rfl Tryz.sizeOf3 Tryz.isAgg3 (cell_of hF.iv)).1) (fun w hF => da_read (read_a I B.i hF.iv (by decide) (run_load1 rfl rfl Tryz.sizeOf3 Tryz.isAgg3 (cell_of hF.iv)).2)) (n := 65) ?_
  exact gw_up E (A011 I B hi h31 hOut hl') (by omega)
 ·refine gw_reads E (v := .string s) rfl rfl (by k_ne) (fun w hF => ?_) (fun w hF => ?_) (n := 65) ?_
  ·obtain ⟨x, h1, h2⟩ := hF.av
   exact (run_load1 rfl rfl Tryz.sizeOf9 Tryz.isAgg9 (by simp [World.cell?, h1, h2])).1
  ·obtain ⟨x, h1, h2⟩ := hF.av
   exact da_read (read_a I B.a h1 (by decide) (run_load1 (v := .string s) rfl rfl Tryz.sizeOf9 Tryz.isAgg9 (by simp [World.cell?, h1, h2])).2)
  exact gw_up E (A002 I B hi h31 hOut hl') (by omega)
theorem A110 (I : IsC c) (B : Bx c Low bm bi ba bw bf) (hi : i < c.n) (h31 : s.size < 2147483648) (hOut : ∀ (w : World) (b : Nat), w.heap[b]? = some (.cells (marks s s.size 0 (zeros s.size)) 4) -> w.cell? ⟨c.C, i, none⟩ = some (sl b s.size) -> c.Out i b w) (hl : Ord ops37 5 #[true, true, false, false, false, false, false] l) :
  GoW Tryz.prog false (RX c Low i (fun _ => False)) (DA c Low) (AtMake c Low i (150 + 40 + 80 * s.size + 40)) (WK c i bm bi ba bw bf s) 64 (G ((base 98).at ⟨#[pt ba, pt bm, pt bi, sl c.C c.n, .int .i64 (i : Int), undef, undef, undef, undef], []⟩ [.inRegion ops37 l]) [(baseD 144).at ⟨T47, [dclo 145 #[pt bw]]⟩ [.inRegion ops47 [i₀]], bot]) := by
 have E := envK (own := fun _ => False) (s := s) (i := i) I B
 obtain ⟨j, hj, l', rfl, hl'⟩ := ord_cons hl (rs := [2]) (by kernel_rfl) (by simp)
 simp only [List.mem_cons, List.not_mem_nil, or_false] at hj
 rcases hj with rfl
 ·refine gw_opk E rfl rfl (by k_ne) (n := 63) (fun w hF K hK => ?_)
  simp only [ops37, Tryz.f98] at hK ⊢
  go_simp
  refine hK _ (by simp [go_sem, *]) ?_
  exact gw_up E (A111 I B hi h31 hOut hl') (by omega)
theorem A100 (I : IsC c) (B : Bx c Low bm bi ba bw bf) (hi : i < c.n) (h31 : s.size < 2147483648) (hOut : ∀ (w : World) (b : Nat), w.heap[b]? = some (.cells (marks s s.size 0 (zeros s.size)) 4) -> w.cell? ⟨c.C, i, none⟩ = some (sl b s.size) -> c.Out i b w) (hl : Ord ops37 6 #[true, false, false, false, false, false, false] l) :
  GoW Tryz.prog false (RX c Low i (fun _ => False)) (DA c Low) (AtMake c Low i (150 + 40 + 80 * s.size + 40)) (WK c i bm bi ba bw bf s) 66 (G ((base 98).at ⟨#[pt ba, pt bm, pt bi, sl c.C c.n, undef, undef, undef, undef, undef], []⟩ [.inRegion ops37 l]) [(baseD 144).at ⟨T47, [dclo 145 #[pt bw]]⟩ [.inRegion ops47 [i₀]], bot]) := by
 have E := envK (own := fun _ => False) (s := s) (i := i) I B
 obtain ⟨j, hj, l', rfl, hl'⟩ := ord_cons hl (rs := [1, 2]) (by kernel_rfl) (by simp)
 simp only [List.mem_cons, List.not_mem_nil, or_false] at hj
 rcases hj with rfl | rfl
 ·refine gw_reads E rfl rfl (by k_ne) (fun w hF => (run_load1 rfl rfl Tryz.sizeOf3 Tryz.isAgg3 (cell_of hF.iv)).1) (fun w hF => da_read (read_a I B.i hF.iv (by decide) (run_load1 rfl rfl Tryz.sizeOf3 Tryz.isAgg3 (cell_of hF.iv)).2)) (n := 65) ?_
  exact gw_up E (A110 I B hi h31 hOut hl') (by omega)
 ·refine gw_opk E rfl rfl (by k_ne) (n := 65) (fun w hF K hK => ?_)
  simp only [ops37, Tryz.f98] at hK ⊢
  go_simp
  refine hK _ (by simp [go_sem, *]) ?_
  exact gw_up E (A101 I B hi h31 hOut hl') (by omega)
theorem A010 (I : IsC c) (B : Bx c Low bm bi ba bw bf) (hi : i < c.n) (h31 : s.size < 2147483648) (hOut : ∀ (w : World) (b : Nat), w.heap[b]? = some (.cells (marks s s.size 0 (zeros s.size)) 4) -> w.cell? ⟨c.C, i, none⟩ = some (sl b s.size) -> c.Out i b w) (hl : Ord ops37 6 #[false, true, false, false, false, false, false] l) :
  GoW Tryz.prog false (RX c Low i (fun _ => False)) (DA c Low) (AtMake c Low i (150 + 40 + 80 * s.size + 40)) (WK c i bm bi ba bw bf s) 66 (G ((base 98).at ⟨#[pt ba, pt bm, pt bi, undef, .int .i64 (i : Int), undef, undef, undef, undef], []⟩ [.inRegion ops37 l]) [(baseD 144).at ⟨T47, [dclo 145 #[pt bw]]⟩ [.inRegion ops47 [i₀]], bot]) := by
 have E := envK (own := fun _ => False) (s := s) (i := i) I B
 obtain ⟨j, hj, l', rfl, hl'⟩ := ord_cons hl (rs := [0, 2]) (by kernel_rfl) (by simp)
 simp only [List.mem_cons, List.not_mem_nil, or_false] at hj
 rcases hj with rfl | rfl
 ·refine gw_reads E rfl rfl (by k_ne) (fun w hF => (run_load1 rfl rfl Tryz.sizeOf122 Tryz.isAgg122 (cell_of hF.mv)).1) (fun w hF => da_read (read_a I B.m hF.mv (by decide) (run_load1 rfl rfl Tryz.sizeOf122 Tryz.isAgg122 (cell_of hF.mv)).2)) (n := 65) ?_
  exact gw_up E (A110 I B hi h31 hOut hl') (by omega)
 ·refine gw_opk E rfl rfl (by k_ne) (n := 65) (fun w hF K hK => ?_)
  simp only [ops37, Tryz.f98] at hK ⊢
  go_simp
  refine hK _ (by simp [go_sem, *]) ?_
  exact gw_up E (A011 I B hi h31 hOut hl') (by omega)
theorem A000 (I : IsC c) (B : Bx c Low bm bi ba bw bf) (hi : i < c.n) (h31 : s.size < 2147483648) (hOut : ∀ (w : World) (b : Nat), w.heap[b]? = some (.cells (marks s s.size 0 (zeros s.size)) 4) -> w.cell? ⟨c.C, i, none⟩ = some (sl b s.size) -> c.Out i b w) (hl : Ord ops37 7 #[false, false, false, false, false, false, false] l) :
  GoW Tryz.prog false (RX c Low i (fun _ => False)) (DA c Low) (AtMake c Low i (150 + 40 + 80 * s.size + 40)) (WK c i bm bi ba bw bf s) 68 (G ((base 98).at ⟨#[pt ba, pt bm, pt bi, undef, undef, undef, undef, undef, undef], []⟩ [.inRegion ops37 l]) [(baseD 144).at ⟨T47, [dclo 145 #[pt bw]]⟩ [.inRegion ops47 [i₀]], bot]) := by
 have E := envK (own := fun _ => False) (s := s) (i := i) I B
 obtain ⟨j, hj, l', rfl, hl'⟩ := ord_cons hl (rs := [0, 1, 2]) (by kernel_rfl) (by simp)
 simp only [List.mem_cons, List.not_mem_nil, or_false] at hj
 rcases hj with rfl | rfl | rfl
 ·refine gw_reads E rfl rfl (by k_ne) (fun w hF => (run_load1 rfl rfl Tryz.sizeOf122 Tryz.isAgg122 (cell_of hF.mv)).1) (fun w hF => da_read (read_a I B.m hF.mv (by decide) (run_load1 rfl rfl Tryz.sizeOf122 Tryz.isAgg122 (cell_of hF.mv)).2)) (n := 67) ?_
  exact gw_up E (A100 I B hi h31 hOut hl') (by omega)
 ·refine gw_reads E rfl rfl (by k_ne) (fun w hF => (run_load1 rfl rfl Tryz.sizeOf3 Tryz.isAgg3 (cell_of hF.iv)).1) (fun w hF => da_read (read_a I B.i hF.iv (by decide) (run_load1 rfl rfl Tryz.sizeOf3 Tryz.isAgg3 (cell_of hF.iv)).2)) (n := 67) ?_
  exact gw_up E (A010 I B hi h31 hOut hl') (by omega)
 ·refine gw_opk E rfl rfl (by k_ne) (n := 67) (fun w hF K hK => ?_)
  simp only [ops37, Tryz.f98] at hK ⊢
  go_simp
  refine hK _ (by simp [go_sem, *]) ?_
  exact gw_up E (A001 I B hi h31 hOut hl') (by omega)
end
end Go.Mark
