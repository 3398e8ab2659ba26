import Derived.Test.YtbephahokhnccaaGreatDoorXD12toD14
import Derived.Test.YtbephahokhnccaaGreatDoorXN3toN4
set_option linter.unusedSectionVars false
set_option maxRecDepth 100000
set_option maxHeartbeats 4000000
namespace Go.Mark
open Go.Conc Go.Walk Go.Phase Go.RowKit Go.Conc.Lib Go.ConcR.Gen Go.ConcN.Gen Go.Lift Go.Proofs
open Go.ConcN (WgLive Has RW DWs AtR0 PayAt)
open Go.ConcR (KK WgAt stA smA rd wr mk Payload)
section
variable {Shun : Loc -> Prop} {h : Array Obj} {bm C n : Nat} {acc : Value} {T : Array Value} {b₀ : Frame} {a₀ : Act} {ops₀ : Array Oper} {i₀ : Nat} {rest₀ : List Nat} {k₀ : List Item} {cs : List Frame}
theorem post_goes (hT : Tmp25 bm acc T) (hb : h[bm]? = some (.cells #[sl C n] 122)) (hS : ∀ k, ¬ Shun (.cell ⟨bm, k, none⟩)) :
  GoW Tryz.prog true AtRel (DX Shun) (fun g w => g = G (b₀.at (a₀.put ((ops₀[i₀]?).bind (·.dst)) (sl C n)) (.inRegion ops₀ rest₀ :: k₀)) cs /\ w.heap = h) (fun w => w.heap = h) 30 (G (fr25' T) (b₀.at a₀ (.inRegion ops₀ (i₀ :: rest₀) :: k₀) :: cs)) := by
 have E := envH (Shun := Shun) h
 obtain ⟨h1, h2, h3⟩ := hT
 obtain ⟨v0, v1, v2, v3, v4, v5, v6, v7, v8, v9, v10, v11, v12, v13, v14, v15, v16, v17, v18, v19, v20, v21, rfl⟩ := array22 T h1
 simp only [List.getElem?_toArray, List.getElem?_cons_succ, List.getElem?_cons_zero, Option.some.injEq] at h2 h3
 subst h3
 clear h1 h2
 unfold fr25'
 refine gw_region_end E ?_
 simp only [fin25, rest25, Tryz.f60]
 have hc : ∀ w : World, w.heap = h -> w.cell? ⟨bm, 0, none⟩ = some (sl C n) := fun w hw => by rw [<- hw] at hb; exact cell_of hb
 repeat (first
  | refine gw_seq E ?_
  | refine gw_region_end E ?_
  | refine gw_region_2 E ?_
  | refine gw_ret E ?_
  | (refine gw_reads E rfl rfl (by k_ne) (fun w hw => (run_load1 rfl rfl Tryz.sizeOf122 Tryz.isAgg122 (hc w hw)).1) (fun w hw => ⟨Nat.le_refl _, (fun e he => by have he := mem_listed he; rw [(run_load1 rfl rfl Tryz.sizeOf122 Tryz.isAgg122 (hc w hw)).2, Array.mem_singleton] at he; subst he; exact evX_own (hS 0) (by rw [<- hw] at hb; exact lt_of_heap hb)), rfl, rfl⟩) ?_; walk_nrm)
  | (refine gw_opk E rfl rfl (by k_ne) (fun w hF K hK => ?_); go_simp; refine hK _ (by simp [go_sem, *]) ?_; clear hK K hF w; try w_num))
 refine gw_leave1 E rfl rfl Tryz.func60 rfl ?_
 exact gw_stop E (fun w hw => ⟨rfl, hw⟩)
end
theorem runs_of {Shun : Loc -> Prop} {D : World -> World -> Array Event -> Prop} {Stop : Goroutine -> World -> Prop} {β : World -> Nat} (hβ : ∀ w d, β (w.at d) = β w) (hD : ∀ w w' es, D w w' es -> β w <= β w' /\ ∀ e ∈ es, EvX Shun (β w') e) {a : Goroutine} {w : World} {k N : Nat} {m : Machine} {t : Trace}
  (hg : Goes Tryz.prog true AtRel D Stop k a w) (hs : Stand Tryz.prog Shun (β w) N a w m t) : Runs Tryz.prog m t fun m' t' => ∃ a' w', Stop a' w' /\ Stand Tryz.prog Shun (β w') N a' w' m' t' :=
 will_runs hβ hD (will_of_goes _ _ _ hg) ⟨w.drawn, rfl⟩ hs
theorem goes_os {P : Program} {main : Bool} {D : World -> World -> Array Event -> Prop} {Stop : Goroutine -> World -> Prop} (hO : ∀ w w' es, D w w' es -> w'.os = w.os /\ w'.output = w.output) (x : World) : ∀ (n : Nat) (a : Goroutine) (w : World), (w.os = x.os /\ w.output = x.output) -> Goes P main AtRel D Stop n a w -> Goes P main AtRel D (fun g w₁ => Stop g w₁ /\ w₁.os = x.os /\ w₁.output = x.output) n a w
 | 0, _, w, hw, hg => fun w₁ h₁ => ⟨hg w₁ h₁, by obtain ⟨d, rfl⟩ := h₁; exact hw⟩
 | n + 1, a, w, hw, hg => by
  rcases hg with hg | ⟨hrun, hg⟩
  ·exact .inl fun w₁ h₁ => ⟨hg w₁ h₁, by obtain ⟨d, rfl⟩ := h₁; exact hw⟩
  ·refine .inr ⟨hrun, fun w₁ h₁ => ?_⟩
   have hg := hg w₁ h₁
   have hw1 : w₁.os = x.os /\ w₁.output = x.output := by obtain ⟨d, rfl⟩ := h₁; exact hw
   generalize stepG P main a w₁ = st at hg
   cases st with
   | go g w' es =>
    simp only [goes_go] at hg ⊢
    exact ⟨hg.1, goes_os hO x n g w' ⟨(hO _ _ _ hg.1).1.trans hw1.1, (hO _ _ _ hg.1).2.trans hw1.2⟩ hg.2⟩
   | _ => exact hg.elim
theorem runs_os {Shun : Loc -> Prop} {D : World -> World -> Array Event -> Prop} {Stop : Goroutine -> World -> Prop} {β : World -> Nat} (hβ : ∀ w d, β (w.at d) = β w) (hD : ∀ w w' es, D w w' es -> β w <= β w' /\ ∀ e ∈ es, EvX Shun (β w') e) (hO : ∀ w w' es, D w w' es -> w'.os = w.os /\ w'.output = w.output) {a : Goroutine} {w : World} {k N : Nat} {m : Machine} {t : Trace}
  (hg : Goes Tryz.prog true AtRel D Stop k a w) (hs : Stand Tryz.prog Shun (β w) N a w m t) : Runs Tryz.prog m t fun m' t' => ∃ a' w', Stop a' w' /\ (w'.os = w.os /\ w'.output = w.output) /\ Stand Tryz.prog Shun (β w') N a' w' m' t' :=
 (runs_of hβ hD (goes_os hO w _ _ _ ⟨rfl, rfl⟩ hg) hs).mono fun _ _ ⟨a', w', ⟨h1, h2⟩, h3⟩ => ⟨a', w', h1, h2, h3⟩
structure Acc0 (Shun : Loc -> Prop) (bacc n : Nat) (X : Array Value) (code : Nat -> ByteArray) (w : World) : Prop where
 row : w.heap[bacc]? = some (.cells X 52)
 size : n * 8 <= X.size
 one : X.all (·.oneCell') = true
 cod : ∀ i, i < n -> X[i * 8 + 6]? = some (.string (code i))
 short : ∀ i, i < n -> (code i).size < 2147483648
 n31 : n < 2147483648
 sh : ∀ a : Addr, a.block = bacc -> ¬ Shun (.cell a)
 low : ∀ l, Shun l -> ∃ a : Addr, l = .cell a /\ a.block < w.heap.size
structure Found (n : Nat) (code : Nat -> ByteArray) (w w' : World) : Prop where
 frame : ∀ b, b < w.heap.size -> w'.heap[b]? = w.heap[b]?
 grown : w.heap.size + 3 <= w'.heap.size
 pay : ∃ cs, w'.heap[w.heap.size]? = some (.cells cs 132) /\ cs.size = n
 cell : ∀ i, i < n -> ∃ b, w.heap.size <= b /\ w'.heap[b]? = some (.cells (marks (code i) (code i).size 0 (zeros (code i).size)) 4) /\ w'.cell? ⟨w.heap.size, i, none⟩ = some (sl b (code i).size) /\ b ≠ w.heap.size + 2
 tidy : ∀ (b : Nat) (o : Obj), w.heap.size <= b -> w'.heap[b]? = some o -> ∃ x e, o = .cells x e
 os : w'.os = w.os /\ w'.output = w.output
theorem h4_old {h0 : Array Obj} {n b : Nat} (hb : b < h0.size) : (h4 h0 n)[b]? = h0[b]? := by
 unfold h4 h3
 rw [Array.getElem?_push, if_neg (by simp; omega), Array.getElem?_push, if_neg (by simp; omega), Array.getElem?_push, if_neg (by omega)]
theorem h4_size (h0 : Array Obj) (n : Nat) : (h4 h0 n).size = h0.size + 3 := by simp [h4, h3]
theorem h4_C (h0 : Array Obj) (n : Nat) : (h4 h0 n)[h0.size]? = some (.cells (zerosM n) 132) := by
 unfold h4 h3
 rw [Array.getElem?_push, if_neg (by simp; omega), Array.getElem?_push, if_neg (by simp), Array.getElem?_push_size]
theorem h4_m (h0 : Array Obj) (n : Nat) : (h4 h0 n)[h0.size + 1]? = some (.cells #[sl h0.size n] 122) := by
 unfold h4 h3
 rw [Array.getElem?_push, if_neg (by simp), Array.getElem?_push, if_pos (by simp)]
theorem h4_W (h0 : Array Obj) (n : Nat) : (h4 h0 n)[h0.size + 2]? = some (.cells #[.int .u64 0, .int .u32 0] 189) := by
 unfold h4
 rw [Array.getElem?_push, if_pos (by simp [h3])]
theorem findMarks_runs {Shun : Loc -> Prop} {bacc n cap o : Nat} {X : Array Value} {code : Nat -> ByteArray} {b₀ : Frame} {a₀ : Act} {ops₀ : Array Oper} {i₀ : Nat} {rest₀ : List Nat} {k₀ : List Item} {cs : List Frame} {w : World} {m : Machine} {t : Trace}
  (A : Acc0 Shun bacc n X code w) (hn : o + n < 2147483647)
  (hst : Stand Tryz.prog Shun w.heap.size (o + 1) (G ((base 60).at ⟨#[.slice (some ⟨bacc, 0, none⟩) n cap] ++ Array.replicate 21 undef, []⟩ [.code (Tryz.f60.body.getD .skip)]) (b₀.at a₀ (.inRegion ops₀ (i₀ :: rest₀) :: k₀) :: cs)) w m t) :
  Runs Tryz.prog m t fun m' t' => ∃ w', Found n code w w' /\ Stand Tryz.prog (fun l => Shun l \/ Go.ConcN.ShN (w.heap.size + 2) l) w'.heap.size (o + n + 1) (G (b₀.at (a₀.put ((ops₀[i₀]?).bind (·.dst)) (sl w.heap.size n)) (.inRegion ops₀ rest₀ :: k₀)) cs) w' m' t' := by
 have hnew : ∀ b k, w.heap.size <= b -> ¬ Shun (.cell ⟨b, k, none⟩) := fun b k hb hs => by
  obtain ⟨a, e, hlt⟩ := A.low _ hs
  cases e
  simp only at hlt
  omega
 refine (runs_os (D := DX Shun) (β := fun w => w.heap.size) (fun _ _ => rfl) (fun _ _ _ h => ⟨h.1, h.2.1⟩) (fun _ _ _ h => h.2.2) (pre_goes A.n31 (fun k => hnew _ k (by omega)) w rfl) hst).then fun m1 t1 h1 => ?_
 obtain ⟨a1, w1, ⟨rfl, hh1⟩, ho1, hst1⟩ := h1
 have hsz1 : w1.heap.size = w.heap.size + 2 := by rw [hh1]; simp [h3]
 refine (runs_os (D := DSil) (β := fun _ => w.heap.size + 2) (fun _ _ => rfl) (fun _ _ es h => ⟨Nat.le_refl _, fun e he => by rw [h.1] at he; simp at he⟩) (fun _ _ _ h => h.2) (wg_goes (h0 := w.heap) w1 hh1) (by rw [hsz1] at hst1; exact hst1)).then fun m2 t2 h2 => ?_
 obtain ⟨a2, w2, ⟨rfl, hh2⟩, ho2, hst2⟩ := h2
 have hb : bacc < w.heap.size := lt_of_heap A.row
 have hsz2 : w2.heap.size = w.heap.size + 3 := by rw [hh2, h4_size]
 have AA : Acc (cfg25 (w.heap.size + 2) w.heap.size n w.heap.size o Shun (w.heap.size + 1) bacc cap X code (b₀.at a₀ (.inRegion ops₀ (i₀ :: rest₀) :: k₀) :: cs)) (w.heap.size + 1) bacc X code := by
  refine ⟨⟨fun q hq => ?_, fun q hq => ?_, fun q hq => ?_, fun q hq a ha => ?_⟩, A.size, A.one, A.cod, A.short, fun i hi w b h1 h2 => ⟨h1, h2⟩, A.n31, by show w.heap.size <= w.heap.size + 1; omega⟩ <;> simp only [bs0, List.mem_cons, List.not_mem_nil, or_false] at hq <;> rcases hq with rfl | rfl
  ·show bacc ≠ w.heap.size + 2; omega
  ·show w.heap.size + 1 ≠ w.heap.size + 2; omega
  ·show bacc ≠ w.heap.size; omega
  ·show w.heap.size + 1 ≠ w.heap.size; omega
  ·show (52 : Nat) ≠ 4; decide
  ·show (122 : Nat) ≠ 4; decide
  ·exact A.sh a ha
  ·intro hs
   obtain ⟨a', e, hlt⟩ := A.low _ hs
   cases e
   simp only at ha
   omega
 refine (phase25 (Wg := w.heap.size + 2) (C := w.heap.size) (n := n) (bse := w.heap.size) (o := o) (Shun := Shun) (bm := w.heap.size + 1) (bacc := bacc) (cap := cap) (X := X) (code := code) (by omega) (Nat.le_refl _) (by omega) A.low AA hn (w := w2) (by omega) (by omega) (fun q hq => ?_) ?_ ?_ (fun b o' hb' ho => ?_) (B0 := w.heap.size + 2) (Nat.le_refl _) hst2).then fun m3 t3 h3' => ?_
 ·simp only [bs0, List.mem_cons, List.not_mem_nil, or_false] at hq
  rcases hq with rfl | rfl
  ·show w2.heap[bacc]? = _
   rw [hh2, h4_old hb]
   exact A.row
  ·show w2.heap[w.heap.size + 1]? = _
   rw [hh2, h4_m]
   rfl
 ·show w2.heap[w.heap.size + 2]? = _
  rw [hh2, h4_W]
  rfl
 ·exact ⟨_, by rw [hh2, h4_C]; rfl, size_madeCells _ _⟩
 ·replace hb' : w.heap.size <= b := hb'
  have hlt := lt_of_heap ho
  rw [hsz2] at hlt
  rw [hh2] at ho
  rcases (by omega : b = w.heap.size \/ b = w.heap.size + 1 \/ b = w.heap.size + 2) with rfl | rfl | rfl
  ·rw [h4_C] at ho; cases ho; exact ⟨_, _, rfl⟩
  ·rw [h4_m] at ho; cases ho; exact ⟨_, _, rfl⟩
  ·rw [h4_W] at ho; cases ho; exact ⟨_, _, rfl⟩
 obtain ⟨T, w3, hT, M, hst3⟩ := h3'
 have hbm : w3.heap[w.heap.size + 1]? = some (.cells #[sl w.heap.size n] 122) := M.rows ⟨w.heap.size + 1, #[sl w.heap.size n], 122⟩ (List.mem_cons_of_mem _ List.mem_cons_self)
 refine (runs_os (D := DX _) (β := fun w => w.heap.size) (fun _ _ => rfl) (fun _ _ _ h => ⟨h.1, h.2.1⟩) (fun _ _ _ h => h.2.2) (post_goes hT hbm (fun k hs => ?_) w3 rfl) hst3).mono fun m4 t4 h4' => ?_
 ·rcases hs with hs | ⟨a, e, hb⟩
  ·exact hnew _ k (by omega) hs
  ·cases e
   simp only at hb
   change w.heap.size + 1 = w.heap.size + 2 at hb
   omega
 obtain ⟨a4, w4, ⟨rfl, hh4⟩, ho4, hst4⟩ := h4'
 have hc : ∀ b : Nat, w4.heap[b]? = w3.heap[b]? := fun b => by rw [hh4]
 have hce : ∀ ad, w4.cell? ad = w3.cell? ad := fun ad => by simp only [World.cell?, hh4]
 refine ⟨w4, ⟨fun b hb' => ?_, ?_, ?_, fun i hi => ?_, fun b o' hb' ho => M.tidy b o' hb' ((hc b).symm.trans ho), ⟨((ho4.1.trans M.os.1).trans ho2.1).trans ho1.1, ((ho4.2.trans M.os.2).trans ho2.2).trans ho1.2⟩⟩, hst4⟩
 ·rw [hc, M.frame b hb', hh2, h4_old hb']
 ·have := M.low.2.1
  rw [hh4]
  exact this
 ·obtain ⟨x, h1, h2⟩ := M.pay
  exact ⟨x, (hc _).trans h1, h2⟩
 ·obtain ⟨b, h1, _, h3, h4⟩ := M.out i hi
  exact ⟨b, h1, (hc b).trans h3, (hce _).trans h4, fun e => by
   have hw : w3.heap[w.heap.size + 2]? = _ := M.wg
   rw [<- e, h3] at hw
   injection hw with hw
   injection hw with _ hw _
   exact absurd hw (show ¬ (4 : Nat) = 189 by decide)⟩
end Go.Mark
namespace Go.Mark
open Go.RowKit Go.Proofs Go.Lift Go.Conc
variable [BaseB]
def IsMap : Obj -> Prop
 | .map _ _ => True
 | _ => False
structure Tw (v u : World) : Prop where
 size : v.heap.size <= u.heap.size
 obj : ∀ (b : Nat) (o : Obj), v.heap[b]? = some o -> IsCells o \/ IsMap o -> u.heap[b]? = some o
theorem Tw.refl (v : World) : Tw v v := ⟨Nat.le_refl _, fun _ _ h _ => h⟩
theorem Tw.trans {v u x : World} (h : Tw v u) (k : Tw u x) : Tw v x := ⟨Nat.le_trans h.size k.size, fun b o h1 h2 => k.obj b o (h.obj b o h1 h2) h2⟩
theorem tw_below {v u : World} (h : Below v.heap.size v u) : Tw v u := ⟨h.size, fun b _ h1 _ => (h.block b (Array.getElem?_eq_some_iff.1 h1).1).trans h1⟩
theorem Tw.cell {v u : World} (h : Tw v u) {a : Addr} {x : Value} (hc : v.cell? a = some x) : u.cell? a = some x := by
 unfold World.cell? at hc ⊢
 cases hb : v.heap[a.block]? with
 | none => rw [hb] at hc; cases hc
 | some o =>
  rw [hb] at hc
  cases o with
  | cells c e f => rw [h.obj a.block _ hb (.inl trivial)]; exact hc
  | _ => cases hc
theorem CellsAt.tw {v u : World} {b o : Nat} {l : List Value} (hc : CellsAt v b o l) (h : Tw v u) : CellsAt u b o l := fun j x hj => h.cell (hc j x hj)
theorem MapB.tw {κ : Type} {kf : κ -> Value} {v u : World} {r : Nat} {l : List (κ × Value)} (hm : MapB kf v r l) (h : Tw v u) : MapB kf u r l := let ⟨es, c, h1, h2⟩ := hm; ⟨es, c, h.obj r _ h1 (.inr trivial), h2⟩
theorem own_tw {v u : World} {base size n : Nat} {e : TypeId} {x : Value} {xs : List Value} (ho : v.ownsRow base e size x n xs) (h : Tw v u) : u.ownsRow base e size x n xs := by
 refine ⟨ho.1, ho.2.imp id ?_⟩
 rintro ⟨g, cap, cur, h1, h2, h3, h4⟩
 exact ⟨g, cap, cur, h1, h2, h.obj g _ h3 (.inl trivial), h4⟩
theorem InR.tw {v u : World} {a : Option Addr} {ds : List (AccD × SV)} (hi : InR v a ds) (h : Tw v u) : InR u a ds :=
 ⟨hi.acc.imp id fun ⟨b, o, h1, h2⟩ => ⟨b, o, h1, fun i p hp => (h2 i p hp).tw h⟩, fun p hp => ⟨(hi.sl p hp).1, (hi.sl p hp).2.imp id fun ⟨b, o, h1, h2⟩ => ⟨b, o, h1, fun i q hq => (h2 i q hq).tw h⟩⟩, hi.bal, hi.num, hi.key, hi.len⟩
theorem LG.tw {v u : World} {l m : Nat} {dm : Dm} {cr : Int} {L : List (Int × Nat × Ac)} {J : List Value} (hl : LG v l m dm cr L J) (h : Tw v u) : LG u l m dm cr L J := by
 obtain ⟨jv, h1, h2⟩ := hl.lj.ex
 exact ⟨⟨hl.lj.lo, jv, h.obj _ _ h1 (.inl trivial), own_tw h2 h⟩, hl.map.tw h, hl.dmap.tw h, fun q hq => h.obj _ _ (hl.acc q hq) (.inl trivial), fun q hq => (hl.slot q hq).tw h, hl.nd, hl.ndb, hl.bal, hl.key, hl.ndk, hl.ndm, hl.nms, hl.nmd, hl.ndd, hl.lo, hl.mlo⟩
structure MadeL (W : World) (pl : Nat) (ds : List (AccD × SV)) (L : List (Int × Nat × Ac)) : Prop where
 lg : ∃ m dmb, LG W pl m ⟨dmb, []⟩ 0 L []
 len : L.length = ds.length
 lst : ∀ (i : Nat) (d : AccD), (ds[i]?).map (fun p : AccD × SV => p.1) = some d -> ∃ pa ms bb, L[i]? = some (accOf d ⟨some ⟨bb, 0, none⟩, d.code.size, d.code.size⟩ pa ms) /\ W.heap[bb]? = some (.cells (marks d.code d.code.size 0 (zeros d.code.size)) 4 (0, 0))
theorem MadeL.tw {v u : World} {pl : Nat} {ds : List (AccD × SV)} {L : List (Int × Nat × Ac)} (hm : MadeL v pl ds L) (h : Tw v u) : MadeL u pl ds L :=
 ⟨let ⟨m, d, hl⟩ := hm.lg; ⟨m, d, hl.tw h⟩, hm.len, fun i d hd => let ⟨pa, ms, bb, h1, h2⟩ := hm.lst i d hd; ⟨pa, ms, bb, h1, h.obj _ _ h2 (.inl trivial)⟩⟩
theorem fine_veil {D D' : Nat -> Prop} {o : Obj} : Fine (veil D) o ↔ Fine (veil D') o := by cases o <;> exact Iff.rfl
theorem not_fine {D : Nat -> Prop} {o : Obj} (h : ¬ Fine (veil D) o) : ¬ IsCells o /\ ¬ IsMap o :=
 ⟨fun hc => by cases o <;> first | exact hc.elim | exact h trivial, fun hc => by cases o <;> first | exact hc.elim | exact h trivial⟩
def Dk (B : Nat) (D : Nat -> Prop) (w : World) : Prop := ∀ b, D b -> (B <= b /\ ∃ c e, w.heap[b]? = some (.cells c e)) \/ (b < B /\ ∃ o, w.heap[b]? = some o /\ ¬ Fine (veil D) o /\ ¬ IsView o)
theorem dk_z {B : Nat} {D : Nat -> Prop} {w : World} (h : Dk B D w) (b : Nat) (hb : D b) : (∃ c e, w.heap[b]? = some (.cells c e)) \/ ∃ o, w.heap[b]? = some o /\ ¬ Fine (veil D) o /\ ¬ IsView o :=
 (h b hb).imp (·.2) (·.2)
theorem look_two {D : Nat -> Prop} {z : Prop} {x y y' : Option Obj} (h : Look z x y) (h' : Look z x y') (hz : z -> (∃ c e, x = some (.cells c e)) \/ ∃ o, x = some o /\ ¬ Fine (veil D) o /\ ¬ IsView o) {o : Obj} (ho : y = some o) (hg : IsCells o \/ IsMap o) : y' = some o := by
 cases h with
 | dark hd =>
  cases ho
  cases h' with
  | dark _ => rfl
  | shut _ hn => exact absurd trivial hn
  | view hv => exact hv.elim
  | same hs => exact absurd trivial ((hs _ rfl).2 hd)
 | shut hd hn =>
  cases ho
  rcases hg with hg | hg <;> exact hg.elim
 | view hv hb =>
  cases ho
  cases o <;> first | exact hb.elim | (rcases hg with hg | hg <;> exact hg.elim)
 | same hs =>
  subst ho
  have hno : ¬ z := fun hd => by
   rcases hz hd with ⟨c, e, hc⟩ | ⟨o', hc, hf, _⟩
   ·cases hc
    exact (hs _ rfl).2 hd trivial
   ·cases hc
    rcases hg with hg | hg
    ·exact (not_fine hf).1 hg
    ·exact (not_fine hf).2 hg
  cases h' with
  | dark hd => exact absurd hd hno
  | shut hd => exact absurd hd hno
  | view hv => exact absurd hv (hs _ rfl).1
  | same _ => rfl
theorem tw_rel {B : Nat} {D : Nat -> Prop} {w v u : World} (hk : Dk B D w) (h : Rel (veil D) w v) (h' : Rel (veil D) w u) : Tw v u :=
 ⟨by rw [h.size, h'.size]; exact Nat.le_refl _, fun b o h1 h2 => look_two (h.look b) (h'.look b) (dk_z hk b) h1 h2⟩
theorem rel_row {D : Nat -> Prop} {w v : World} (h : Rel (veil D) w v) {b : Nat} {c : Array Value} {e : TypeId} {f : Nat × Nat} (hb : v.heap[b]? = some (.cells c e f)) (he : 0 < c.size) : w.heap[b]? = some (.cells c e f) := by
 have hl := h.look b
 rw [hb] at hl
 generalize hx : w.heap[b]? = x at hl
 cases hl with
 | dark hd => simp at he
 | view _ hbl => exact hbl.elim
 | same _ => rfl
section
open Go.Walk Go.Phase
end
end Go.Mark
set_option maxRecDepth 100000
set_option maxHeartbeats 4000000
namespace Go.Mark
open Go.Conc Go.Walk Go.Phase Go.RowKit Go.Conc.Lib Go.ConcR.Gen Go.ConcN.Gen Go.Lift Go.Proofs
open Go.ConcN (WgLive Has RW DWs AtR0 PayAt)
open Go.ConcR (KK WgAt stA smA rd wr mk Payload)
variable [BaseB]
noncomputable def ops17 : Array Oper := match Tryz.f35.body with
 | some (.seq _ (.seq (.region _ o _) _)) => o
 | _ => #[]
section
variable {h0 : Array Obj} {b n cap mb : Nat} {cs : List Frame}
theorem enter17 : GoW Tryz.prog true AtRel DSil (fun g w => g = G ((base 60).at ⟨#[.slice (some ⟨b, 0, none⟩) n cap] ++ Array.replicate 21 undef, []⟩ [.code (Tryz.f60.body.getD .skip)]) ((base 35).at ⟨#[.slice (some ⟨b, 0, none⟩) n cap, undef, .pointer none, undef, undef, undef, undef, .slice (some ⟨b, 0, none⟩) n cap, undef, undef, undef, undef, undef, undef, undef, undef, undef, undef, undef, undef, undef, undef, undef, undef, undef, undef, undef, undef, undef, undef, undef, undef, undef, undef, undef, undef, undef, undef, undef, undef, undef, undef, undef, undef, undef, undef], []⟩ (.inRegion ops17 [1, 2] :: [.code c17]) :: cs) /\ w.heap = h0) (fun w => w.heap = h0) 30
   (G ((base 35).at ⟨#[.slice (some ⟨b, 0, none⟩) n cap] ++ Array.replicate 45 undef, []⟩ [.code (Tryz.f35.body.getD .skip)]) cs) := by
 have E := envS h0
 obtain ⟨bd, hbd⟩ : ∃ c, c = c17 := ⟨_, rfl⟩
 have hbd' := hbd
 simp only [c17, Tryz.f35] at hbd'
 rw [<- hbd]
 simp only [Tryz.f35, Option.getD_some]
 rw [<- hbd']
 walk_nrm
 repeat (first
  | refine gw_seq E ?_
  | refine gw_region_end E ?_
  | refine gw_region_1 E ?_
  | refine gw_region_3 E ?_
  | (refine gw_opk E rfl rfl (by k_ne) (fun w hF K hK => ?_); go_simp; refine hK _ (by simp [go_sem, *]) ?_; clear hK K hF w; try w_num))
 refine gw_call E rfl rfl (by k_ne) rfl Tryz.func60 (by kernel_rfl) (c := Tryz.f60.body.getD .skip) rfl ?_
 walk_nrm
 exact gw_stop E (fun w hw => ⟨by rw [hbd]; rfl, hw⟩)
theorem mid17 : GoW Tryz.prog true AtRel DSil (fun g w => g = G ((base 35).at ⟨#[.slice (some ⟨b, 0, none⟩) n cap, undef, .pointer none, sl mb n, undef, undef, undef, .slice (some ⟨b, 0, none⟩) n cap, sl mb n, undef, undef, undef, undef, undef, undef, undef, undef, undef, undef, undef, undef, undef, undef, undef, undef, undef, undef, undef, undef, undef, undef, undef, undef, undef, undef, undef, undef, undef, undef, undef, undef, undef, undef, undef, undef, undef], []⟩ [.code c17]) cs /\ w.heap = h0) (fun w => w.heap = h0) 30
   (G ((base 35).at ⟨#[.slice (some ⟨b, 0, none⟩) n cap, undef, .pointer none, undef, undef, undef, undef, .slice (some ⟨b, 0, none⟩) n cap, sl mb n, undef, undef, undef, undef, undef, undef, undef, undef, undef, undef, undef, undef, undef, undef, undef, undef, undef, undef, undef, undef, undef, undef, undef, undef, undef, undef, undef, undef, undef, undef, undef, undef, undef, undef, undef, undef, undef], []⟩ (.inRegion ops17 [2] :: [.code c17])) cs) := by
 have E := envS h0
 obtain ⟨bd, hbd⟩ : ∃ c, c = c17 := ⟨_, rfl⟩
 rw [<- hbd]
 simp only [ops17, Tryz.f35]
 refine gw_opk E rfl rfl (by k_ne) (fun w hF K hK => ?_) 
 go_simp
 refine hK _ (by simp [go_sem, *]) ?_
 clear hK K hF w
 refine gw_region_end E ?_
 exact gw_stop E (fun w hw => ⟨rfl, hw⟩)
end
theorem rel_up {D : Nat -> Prop} {w v : World} (h : Rel (veil D) w v) {b : Nat} {c : Array Value} {e : TypeId} {f : Nat × Nat} (hb : w.heap[b]? = some (.cells c e f)) (hd : ¬ D b) : v.heap[b]? = some (.cells c e f) := by
 have hl := h.look b
 rw [hb] at hl
 generalize v.heap[b]? = x at hl
 cases hl with
 | dark hz => exact absurd hz hd
 | shut hz => exact absurd hz hd
 | view hv => exact hv.elim
 | same _ => rfl
theorem dk_v {B : Nat} {D : Nat -> Prop} {w v : World} (hk : Dk B D w) (h : Rel (veil D) w v) (b : Nat) (hb : D b) : (B <= b /\ ∃ e, v.heap[b]? = some (.cells #[] e)) \/ (b < B /\ v.heap[b]? = some (.coro none)) := by
 rcases hk b hb with ⟨h1, c, e, hc⟩ | ⟨h1, o, ho, hf, hv⟩
 ·refine .inl ⟨h1, ?_⟩
  have hl := h.look b
  rw [hc] at hl
  generalize v.heap[b]? = x at hl
  cases hl with
  | dark hz => exact ⟨_, rfl⟩
  | shut _ hn => exact absurd trivial hn
  | view hv => exact hv.elim
  | same hs => exact absurd trivial ((hs _ rfl).2 hb)
 ·refine .inr ⟨h1, ?_⟩
  have hl := h.look b
  rw [ho] at hl
  generalize hx : v.heap[b]? = x at hl
  cases hl with
  | dark hz => exact absurd trivial hf
  | shut => rfl
  | view hv' => exact absurd hv' hv
  | same hs => exact absurd (h.code b o hx) hf
structure On0 (B : Nat) (D' : Nat -> Prop) (w w' v' : World) : Prop where
 rel : Rel (veil D') w' v'
 dk : Dk B D' w'
 kw : ∀ b, b < B -> w'.heap[b]? = w.heap[b]?
 os : w'.os = w.os /\ w'.output = w.output
 up : w.heap.size <= w'.heap.size
structure OnTo (B : Nat) (Shun' : Loc -> Prop) (D' : Nat -> Prop) (w w' v v' : World) : Prop extends On0 B D' w w' v' where
 hid : Hides (veil D') Shun'
 tw : Tw v v'
theorem On0.trans {B : Nat} {D1 D2 : Nat -> Prop} {w w1 w2 v1 v2 : World} (h : On0 B D1 w w1 v1) (k : On0 B D2 w1 w2 v2) : On0 B D2 w w2 v2 :=
 ⟨k.rel, k.dk, fun b hb => (k.kw b hb).trans (h.kw b hb), ⟨k.os.1.trans h.os.1, k.os.2.trans h.os.2⟩, Nat.le_trans h.up k.up⟩
theorem OnTo.trans {B : Nat} {S1 S2 : Loc -> Prop} {D1 D2 : Nat -> Prop} {w w1 w2 v v1 v2 : World} (h : OnTo B S1 D1 w w1 v v1) (k : OnTo B S2 D2 w1 w2 v1 v2) : OnTo B S2 D2 w w2 v v2 :=
 ⟨h.toOn0.trans k.toOn0, k.hid, h.tw.trans k.tw⟩
theorem on0_lone {B : Nat} {D : Nat -> Prop} {w w' u v' : World} (hk : Dk B D w) (hu : Rel (veil D) w u) (hr : Rel (veil D) w' v') (hs : Stays w w' v') (hB : B <= w.heap.size) (hb : ∀ b, b < B -> v'.heap[b]? = u.heap[b]?) (hz : ∀ (b : Nat) (e : TypeId), u.heap[b]? = some (.cells #[] e) -> v'.heap[b]? = some (.cells #[] e)) (hsz : u.heap.size <= v'.heap.size) (ho : v'.os = u.os /\ v'.output = u.output) : On0 B D w w' v' := by
 have kw : ∀ b, b < B -> w'.heap[b]? = w.heap[b]? := fun b hlt => by
  have hnd : ∀ o, v'.heap[b]? = some o -> ¬ Off o -> ¬ D b := fun o hv hoff hd => by
   rcases dk_v hk hu b hd with ⟨h1, _⟩ | ⟨_, h1⟩
   ·omega
   ·rw [<- hb b hlt, hv] at h1
    cases h1
    exact hoff (.inr rfl)
  cases hv : v'.heap[b]? with
  | none =>
   have := Array.getElem?_eq_none_iff.1 hv
   have := hu.size
   omega
  | some o =>
   by_cases hoff : Off o
   ·exact hs b o hv hoff (by omega)
   ·have hn := hnd o hv hoff
    have hl := hr.look b
    have hl' := hu.look b
    rw [<- hb b hlt] at hl'
    rw [hv] at hl hl'
    generalize w'.heap[b]? = x at hl ⊢
    generalize w.heap[b]? = y at hl' ⊢
    cases hl with
    | dark hd => exact absurd hd hn
    | shut hd => exact absurd hd hn
    | view _ hbl => exact absurd (Or.inl (by cases o <;> first | exact hbl.elim | trivial)) hoff
    | same _ =>
     cases hl' with
     | dark hd => exact absurd hd hn
     | shut hd => exact absurd hd hn
     | view _ hbl => exact absurd (Or.inl (by cases o <;> first | exact hbl.elim | trivial)) hoff
     | same _ => rfl
 refine ⟨hr, fun b hd => ?_, kw, ⟨by rw [<- hr.os, ho.1, hu.os], by rw [<- hr.out, ho.2, hu.out]⟩, by rw [<- hr.size, <- hu.size]; exact hsz⟩
 rcases hk b hd with ⟨h1, c, e, hc⟩ | ⟨h1, o, h2, h3, h4⟩
 ·rcases dk_v hk hu b hd with ⟨_, e', he⟩ | ⟨h2, _⟩
  ·refine .inl ⟨h1, ?_⟩
   have hl := hr.look b
   rw [hz b e' he] at hl
   generalize w'.heap[b]? = x at hl
   cases hl with
   | dark _ => exact ⟨_, _, rfl⟩
   | view _ hbl => exact hbl.elim
   | same hs => exact absurd trivial ((hs _ rfl).2 hd)
  ·omega
 ·exact .inr ⟨h1, o, (kw b h1).trans h2, h3, h4⟩
theorem onto_lone {B : Nat} {Shun : Loc -> Prop} {D : Nat -> Prop} {w w' v u v' : World} (hk : Dk B D w) (hrel : Rel (veil D) w v) (hhid : Hides (veil D) Shun) (hB : B <= w.heap.size) (hu : Rel (veil D) w u) (hr : Rel (veil D) w' v') (hs : Stays w w' v') (hb : Below u.heap.size u v') : OnTo B Shun D w w' v v' :=
 ⟨on0_lone hk hu hr hs hB (fun b hlt => hb.block b (by rw [hu.size]; omega)) (fun b e he => (hb.block b (Array.getElem?_eq_some_iff.1 he).1).trans he) hb.size ⟨hb.os, hb.output⟩, hhid, (tw_rel hk hrel hu).trans (tw_below hb)⟩
theorem onto_sil {B : Nat} {Shun : Loc -> Prop} {D : Nat -> Prop} {w w' v : World} (hk : Dk B D w) (hrel : Rel (veil D) w v) (hhid : Hides (veil D) Shun) (hh : w'.heap = w.heap) (ho : w'.os = w.os /\ w'.output = w.output) : OnTo B Shun D w w' v v :=
 ⟨⟨⟨by rw [hh]; exact hrel.size, fun b hb => by rw [hh]; exact hrel.low b hb, fun b => by rw [hh]; exact hrel.look b, hrel.code, by rw [ho.1]; exact hrel.os, by rw [ho.2]; exact hrel.out⟩, fun b hb => by rw [hh]; exact hk b hb, fun b _ => by rw [hh], ho, by rw [hh]; exact Nat.le_refl _⟩, hhid, Tw.refl v⟩
end Go.Mark
