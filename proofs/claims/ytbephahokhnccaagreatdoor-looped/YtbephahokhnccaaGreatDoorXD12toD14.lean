import Derived.Test.YtbephahokhnccaaGreatDoorXD11toC3
set_option linter.unusedSectionVars false
set_option maxRecDepth 100000
set_option maxHeartbeats 4000000
namespace Go.Mark
open Go.Conc Go.Walk Go.Phase Go.RowKit Go.Conc.Lib Go.ConcR.Gen Go.ConcN.Gen Go.Lift Go.Proofs
open Go.ConcN (WgLive Has RW DWs AtR0 PayAt)
open Go.ConcR (KK WgAt stA smA rd wr mk Payload)
noncomputable def ops25 : Array Oper := match rest25 with
 | .seq (.region _ o _) _ => o
 | _ => #[]
noncomputable def fin25 : Code := match rest25 with
 | .seq _ r => r
 | _ => .skip
theorem rest25_eq : rest25 = .seq (.region 8 ops25 false) fin25 := rfl
noncomputable def fr25 (T : Array Value) : Frame := (base 60).at ⟨T, []⟩ [.inRegion ops25 [0], .code fin25]
noncomputable def fr25' (T : Array Value) : Frame := (base 60).at ⟨T, []⟩ [.inRegion ops25 [], .code fin25]
section
variable {c : Cfg} (I : IsC c) {bm bacc cap : Nat} {X : Array Value} {code : Nat -> ByteArray} {cs : List Frame}
theorem wait_start (I : IsC c) {bs : List Rw} (g0 : GR c bs) {Low : Nat} {b₀ : Frame} (hA : ∀ g w, AnchWN Tryz.link (HR bs) c.Wg b₀ cs g w -> c.Anch Low g w) :
  GoW Tryz.prog true (R0 c) (D0 c Low) (AtKd c Low) (F0 c Low bs) 20 (G ((base 100).at ⟨#[pt c.Wg] ++ Array.replicate 83 undef, []⟩ [.code (body_wait Tryz.link)]) (b₀ :: cs)) := by
 have E := env0 (Low := Low) I g0
 obtain ⟨l7, hl7⟩ : ∃ l, l = L7 Tryz.link := ⟨_, rfl⟩
 have hl7' := hl7
 simp only [L7, body_wait, waitFn, Option.getD_some] at hl7'
 simp only [body_wait, waitFn, Option.getD_some]
 rw [<- hl7']
 walk_nrm
 refine gw_seq E ?_
 refine gw_true E rfl ?_
 refine gw_region_1 E ?_
 refine gw_stop E (fun w hF => ?_)
 unfold Phase.AtKd
 rw [I.P]
 refine ⟨rfl, _, stepG_mark0 .disable (by simp) rfl rfl (by k_ne) rfl Tryz.wgLib.f_disable (x_disable_n Tryz.link) (x_disable_b Tryz.link) (x_disable_x Tryz.link) (x_disable_f Tryz.link), 40, ?_⟩
 revert w
 show GoW Tryz.prog true (R0 c) (D0 c Low) (c.Anch Low) (F0 c Low bs) 40 _
 walk_nrm
 repeat (first
  | refine gw_seq E ?_
  | refine gw_region_end E ?_
  | refine gw_region_1 E ?_
  | refine gw_true E rfl ?_
  | refine gw_block E ?_
  | refine gw_loop E ?_
  | refine gw_true E (by simp [Act.eval]; omega) ?_
  | (refine gw_opk E rfl rfl (by k_ne) (fun w hF K hK => ?_); go_simp; refine hK _ (by simp [go_sem, *]) ?_; clear hK K hF w; try w_num))
 rw [hl7]
 exact gw_stop E (fun w hF => hA _ _ ⟨_, rfl, by simp, by simp, hF.rows, hF.live⟩)
theorem last (I : IsC c) (A : Acc c bm bacc X code) {Low : Nat} {v1 v2 v5 v6 v7 v8 v9 v13 v14 v15 v16 v17 v18 v19 v20 v21 : Value} (hA : ∀ T g w, AnchWN Tryz.link (HR (bs0 c bacc bm X)) c.Wg (fr25 T) cs g w -> T.size = 22 /\ T[0]? = some (.slice (some ⟨bacc, 0, none⟩) c.n cap) /\ T[3]? = some (pt bm) -> c.Anch Low g w) :
  GoW Tryz.prog true (R0 c) (D0 c Low) (AtKd c Low) (F0 c Low (bs0 c bacc bm X)) 100 (G ((base 60).at ⟨#[.slice (some ⟨bacc, 0, none⟩) c.n cap, v1, v2, pt bm, pt c.Wg, v5, v6, v7, v8, v9, .slice (some ⟨bacc, 0, none⟩) c.n cap, .int .i64 (c.n : Int), .int .i64 (c.n : Int), v13, v14, v15, v16, v17, v18, v19, v20, v21], []⟩ [.code loop25, .inLoop loop25, .inBlock 0, .code rest25]) cs) := by
 have g0 := A.gr
 have E := env0 (Low := Low) I g0
 obtain ⟨lp, hlp⟩ : ∃ l, l = loop25 := ⟨_, rfl⟩
 rw [<- hlp]
 have hlp' := hlp
 simp only [loop25, Tryz.f60] at hlp'
 rw [show (Item.code lp) = Item.code _ from congrArg Item.code hlp', rest25_eq]
 obtain ⟨fin, hfin⟩ : ∃ f, f = fin25 := ⟨_, rfl⟩
 rw [<- hfin]
 repeat (first
  | refine gw_seq E ?_
  | refine gw_region_end E ?_
  | refine gw_region_1 E ?_
  | refine gw_false E rfl ?_
  | refine gw_exit E rfl ?_
  | refine gw_false E (by simp [Act.eval]; omega) ?_
  | (refine gw_opk E rfl rfl (by k_ne) (fun w hF K hK => ?_); go_simp; refine hK _ (by simp [go_sem, *]) ?_; clear hK K hF w; try w_num))
 refine gw_call E rfl rfl (by k_ne) rfl Tryz.wgLib.f_wait (nm_wait Tryz.link) (c := body_wait Tryz.link) rfl ?_
 walk_nrm
 rw [show (waitFn Tryz.link).ntmps - 1 = 83 from rfl, hfin]
 exact gw_up E (n := 20) (wait_start I g0 (fun g w h => hA _ g w h ⟨rfl, rfl, rfl⟩)) (by omega)
theorem heads (I : IsC c) (A : Acc c bm bacc X code) (hA : ∀ Low T g w, AnchWN Tryz.link (HR (bs0 c bacc bm X)) c.Wg (fr25 T) cs g w -> T.size = 22 /\ T[0]? = some (.slice (some ⟨bacc, 0, none⟩) c.n cap) /\ T[3]? = some (pt bm) -> c.Anch Low g w) :
  ∀ (r i : Nat), i + r = c.n -> ∀ (Low : Nat) (v1 v2 v5 v6 v7 v8 v9 v13 v14 v15 v16 v17 v18 v19 v20 v21 : Value), Lo c Low -> GoW Tryz.prog true (R0 c) (D0 c Low) (StopOf c r Low) (F0 c Low (bs0 c bacc bm X)) 100 (G ((base 60).at ⟨#[.slice (some ⟨bacc, 0, none⟩) c.n cap, v1, v2, pt bm, pt c.Wg, v5, v6, v7, v8, v9, .slice (some ⟨bacc, 0, none⟩) c.n cap, .int .i64 (c.n : Int), .int .i64 (i : Int), v13, v14, v15, v16, v17, v18, v19, v20, v21], []⟩ [.code loop25, .inLoop loop25, .inBlock 0, .code rest25]) cs)
 | 0, i, hi, Low, v1, v2, v5, v6, v7, v8, v9, v13, v14, v15, v16, v17, v18, v19, v20, v21, L => by
  have e : i = c.n := by omega
  subst e
  exact last I A (hA Low)
 | r + 1, i, hi, Low, v1, v2, v5, v6, v7, v8, v9, v13, v14, v15, v16, v17, v18, v19, v20, v21, L => start I A hi L (fun Low' v1 v2 v5 v6 v7 v8 v9 v13 v14 v15 v16 v17 v18 v19 v20 v21 L' => heads I A hA r (i + 1) (by omega) Low' v1 v2 v5 v6 v7 v8 v9 v13 v14 v15 v16 v17 v18 v19 v20 v21 L')
end
end Go.Mark
set_option maxRecDepth 100000
set_option maxHeartbeats 4000000
namespace Go.Mark
open Go.Conc Go.Walk Go.Phase Go.RowKit Go.Conc.Lib Go.ConcR.Gen Go.ConcN.Gen Go.Lift Go.Proofs
open Go.ConcN (WgLive Has RW DWs AtR0 PayAt)
open Go.ConcR (KK WgAt stA smA rd wr mk Payload)
noncomputable def body25 : Code := match Tryz.f60.body with
 | some (.seq _ (.seq _ (.seq _ r))) => r
 | _ => .skip
noncomputable def opsWg : Array Oper := match Tryz.f60.body with
 | some (.seq _ (.seq _ (.seq (.region _ o _) _))) => o
 | _ => #[]
theorem ev_lenS (w : World) (a : Option Addr) (l k : Nat) : (Builtin.len_ #[22] 3 #[.slice a l k]).events Tryz.prog w #[] = #[] := by
 simp [Builtin.len_, go_sem]
def Tmp25 (bm : Nat) (acc : Value) (T : Array Value) : Prop := T.size = 22 /\ T[0]? = some acc /\ T[3]? = some (pt bm)
noncomputable def cfg25 (Wg C n base o : Nat) (Shun : Loc -> Prop) (bm bacc cap : Nat) (X : Array Value) (code : Nat -> ByteArray) (cs : List Frame) : Cfg :=
 { P := Tryz.prog, ty := 189, tb := 4, Wg, C, n, base, o, Shun
   Out := fun i b w => w.heap[b]? = some (.cells (marks (code i) (code i).size 0 (zeros (code i).size)) 4) /\ w.cell? ⟨C, i, none⟩ = some (sl b (code i).size)
   Anch := fun _ g w => ∃ T, Tmp25 bm (.slice (some ⟨bacc, 0, none⟩) n cap) T /\ AnchWN Tryz.link (HR [⟨bacc, X, 52⟩, ⟨bm, #[sl C n], 122⟩]) Wg (fr25 T) cs g w
   Then := fun g w => ∃ T, Tmp25 bm (.slice (some ⟨bacc, 0, none⟩) n cap) T /\ HR [⟨bacc, X, 52⟩, ⟨bm, #[sl C n], 122⟩] w /\ Goes Tryz.prog true AtRel DNil (fun g' _ => g' = G (fr25' T) cs) 40 g w }
section
variable {Wg C n bse o : Nat} {Shun : Loc -> Prop} {bm bacc cap : Nat} {X : Array Value} {code : Nat -> ByteArray} {cs : List Frame}
theorem geo25 (hCW : C ≠ Wg) (bC : bse <= C) (bW : bse <= Wg) (hS : ∀ l, Shun l -> ∃ a : Addr, l = .cell a /\ a.block < bse) : Geo (cfg25 Wg C n bse o Shun bm bacc cap X code cs) :=
 ⟨hCW, by show (189 : Nat) ≠ 4; decide, by show (132 : Nat) ≠ 4; decide, bC, bW, hS, fun i b w w' h1 h2 h => ⟨h1.trans h.1, h2.trans h.2⟩, fun L g w h => by
  obtain ⟨T, _, T', rfl, _⟩ := h
  rfl⟩
theorem isC25 (G : Geo (cfg25 Wg C n bse o Shun bm bacc cap X code cs)) : IsC (cfg25 Wg C n bse o Shun bm bacc cap X code cs) := ⟨rfl, rfl, rfl, G⟩
theorem anch25 (G : Geo (cfg25 Wg C n bse o Shun bm bacc cap X code cs)) (g0 : GR (cfg25 Wg C n bse o Shun bm bacc cap X code cs) (bs0 (cfg25 Wg C n bse o Shun bm bacc cap X code cs) bacc bm X)) (L : Nat) (g : Goroutine) (w : World) (h : ((cfg25 Wg C n bse o Shun bm bacc cap X code cs)).Anch L g w) : ∃ m, Goes ((cfg25 Wg C n bse o Shun bm bacc cap X code cs)).P true (R0 (cfg25 Wg C n bse o Shun bm bacc cap X code cs)) (D0 (cfg25 Wg C n bse o Shun bm bacc cap X code cs) L) (AtW1 (cfg25 Wg C n bse o Shun bm bacc cap X code cs) L) m g w := by
 obtain ⟨T, hT, h⟩ := h
 have I := isC25 G
 refine waitX (c := (cfg25 Wg C n bse o Shun bm bacc cap X code cs)) (L := Tryz.link) Tryz.wgLib (X := HR (bs0 (cfg25 Wg C n bse o Shun bm bacc cap X code cs) bacc bm X)) (fun w w₁ h r q hq => (r.keep q.b (lt_of_heap (h q hq)) (g0.wg q hq) (g0.cc q hq) (notB I (h q hq) (g0.ty q hq))).trans (h q hq))
  (b₀ := Go.Conc.base 60) (a₀ := ⟨T, []⟩) (ops₀ := ops25) (i₀ := 0) (rest₀ := []) (k₀ := [.code fin25]) (cs := cs) rfl (fun g w h => ⟨T, hT, h⟩) (fun g w hX hl hg => ?_) g w h
 refine ⟨T.setIfInBounds 20 (.tuple #[]), ⟨by simpa using hT.1, by rw [Array.getElem?_setIfInBounds_ne (by omega)]; exact hT.2.1, by rw [Array.getElem?_setIfInBounds_ne (by omega)]; exact hT.2.2⟩, hX, hg⟩
theorem spawns25 (G : Geo (cfg25 Wg C n bse o Shun bm bacc cap X code cs)) (A : Acc (cfg25 Wg C n bse o Shun bm bacc cap X code cs) bm bacc X code) {w : World} (hW : Wg < w.heap.size) (hC : C < w.heap.size) (hb : bse <= w.heap.size) (hr : HR (bs0 (cfg25 Wg C n bse o Shun bm bacc cap X code cs) bacc bm X) w) (hl : WgLive 189 Wg w) {v1 v2 v5 v6 v7 v8 v9 v10 v11 v12 v13 v14 v15 v16 v17 v18 v19 v20 v21 : Value} :
  Spawns (cfg25 Wg C n bse o Shun bm bacc cap X code cs) n (Go.Conc.G ((Go.Conc.base 60).at ⟨#[.slice (some ⟨bacc, 0, none⟩) n cap, v1, v2, pt bm, pt Wg, v5, v6, v7, v8, v9, v10, v11, v12, v13, v14, v15, v16, v17, v18, v19, v20, v21], []⟩ [.inRegion opsWg [], .code body25]) cs) w := by
 have I := isC25 G
 have L : Lo (cfg25 Wg C n bse o Shun bm bacc cap X code cs) w.heap.size := ⟨hW, hC, hb⟩
 refine spawns_of (c := (cfg25 Wg C n bse o Shun bm bacc cap X code cs)) (r := n) ⟨140, ?_⟩
 have E := env0 (Low := w.heap.size) I A.gr
 have hH := heads I A (cap := cap) (cs := cs) (fun Low T g w h hT => ⟨T, hT, h⟩) n 0 (Nat.zero_add n) w.heap.size
 suffices GoW Tryz.prog true (R0 (cfg25 Wg C n bse o Shun bm bacc cap X code cs)) (D0 (cfg25 Wg C n bse o Shun bm bacc cap X code cs) w.heap.size) (StopOf (cfg25 Wg C n bse o Shun bm bacc cap X code cs) n w.heap.size) (F0 (cfg25 Wg C n bse o Shun bm bacc cap X code cs) w.heap.size (bs0 (cfg25 Wg C n bse o Shun bm bacc cap X code cs) bacc bm X)) 140 _ from this w ⟨hr, Nat.le_refl _, hl⟩
 have e1 := ev_lenS
 obtain ⟨lp, hlp⟩ : ∃ l, l = loop25 := ⟨_, rfl⟩
 obtain ⟨rs, hrs⟩ : ∃ l, l = rest25 := ⟨_, rfl⟩
 rw [<- hlp, <- hrs] at hH
 have hlp' := hlp
 have hrs' := hrs
 simp only [loop25, Tryz.f60] at hlp'
 simp only [rest25, Tryz.f60] at hrs'
 simp only [body25, Tryz.f60]
 rw [<- hlp', <- hrs']
 repeat (first
  | refine gw_seq E ?_
  | refine gw_region_end E ?_
  | refine gw_region_3 E ?_
  | refine gw_block E ?_
  | refine gw_loop E ?_
  | (refine gw_opk E rfl rfl (by k_ne) (fun w hF K hK => ?_); go_simp; refine hK _ (by simp [go_sem, *]) ?_; clear hK K hF w; try w_num))
 exact gw_up E (hH _ _ _ _ _ _ _ _ _ _ _ _ _ _ _ _ L) (by omega)
structure Mid (c : Cfg) (bs : List Rw) (w0 w : World) : Prop where
 rows : HR bs w
 out : ∀ i, i < c.n -> ∃ b, c.base <= b /\ IsB c w b /\ c.Out i b w
 pay : PayAt c.C c.n w
 wg : WgAt c.ty c.Wg w 0 0
 frame : ∀ b, b < c.base -> w.heap[b]? = w0.heap[b]?
 tidy : Tidy c w
 os : w.os = w0.os /\ w.output = w0.output
 low : c.base <= w.heap.size /\ c.Wg < w.heap.size /\ c.C < w.heap.size
theorem will_of_goes {P : Program} {D : World -> World -> Array Event -> Prop} {Stop : Goroutine -> World -> Prop} : ∀ (n : Nat) (a : Goroutine) (w : World), Goes P true AtRel D Stop n a w -> Will P D Stop a w
 | 0, _, _, h => .stop h
 | n + 1, a, w, h => by
  rcases h with h | ⟨hrun, h⟩
  ·exact .stop h
  ·refine .step hrun (fun w₁ => match stepG P true a w₁ with | .go g w' es => (g, w', es) | _ => (a, w₁, #[])) (fun w₁ h₁ => ?_) (fun w₁ h₁ => ?_)
   ·have := h w₁ h₁
    generalize stepG P true a w₁ = st at this
    cases st with
    | go g w' es => exact ⟨rfl, this.1⟩
    | _ => exact this.elim
   ·have := h w₁ h₁
    generalize stepG P true a w₁ = st at this
    cases st with
    | go g w' es => exact will_of_goes n _ _ this.2
    | _ => exact this.elim
theorem goes_keep {P : Program} {main : Bool} {gs : Goroutine} {x : World} : ∀ (n : Nat) (a : Goroutine) (w : World), (w.heap = x.heap /\ w.os = x.os /\ w.output = x.output) -> Goes P main AtRel DNil (fun g' _ => g' = gs) n a w -> Goes P main AtRel DNil (fun g' w₁ => g' = gs /\ w₁.heap = x.heap /\ w₁.os = x.os /\ w₁.output = x.output) n a w
 | 0, _, w, hw, hg => fun w₁ h₁ => ⟨hg w₁ h₁, by obtain ⟨d, rfl⟩ := h₁; exact hw⟩
 | n + 1, a, w, hw, hg => by
  rcases hg with hg | ⟨hrun, hg⟩
  ·exact .inl fun w₁ h₁ => ⟨hg w₁ h₁, by obtain ⟨d, rfl⟩ := h₁; exact hw⟩
  ·refine .inr ⟨hrun, fun w₁ h₁ => ?_⟩
   have hg := hg w₁ h₁
   have hw1 : w₁.heap = x.heap /\ w₁.os = x.os /\ w₁.output = x.output := by obtain ⟨d, rfl⟩ := h₁; exact hw
   generalize stepG P main a w₁ = st at hg
   cases st with
   | go g w' es =>
    simp only [goes_go] at hg ⊢
    refine ⟨hg.1, goes_keep n g w' ?_ hg.2⟩
    rw [hg.1.1]
    exact hw1
   | _ => exact hg.elim
theorem phase25 (hCW : C ≠ Wg) (bC : bse <= C) (bW : bse <= Wg) (hS : ∀ l, Shun l -> ∃ a : Addr, l = .cell a /\ a.block < bse) (A : Acc (cfg25 Wg C n bse o Shun bm bacc cap X code cs) bm bacc X code) (hn : o + n < 2147483647)
  {w : World} (hC : C < w.heap.size) (hb : bse <= w.heap.size) (hr : HR (bs0 (cfg25 Wg C n bse o Shun bm bacc cap X code cs) bacc bm X) w) (hl : WgAt 189 Wg w 0 0) (hp : PayAt C n w) (ht : Tidy (cfg25 Wg C n bse o Shun bm bacc cap X code cs) w) {v1 v2 v5 v6 v7 v8 v9 v10 v11 v12 v13 v14 v15 v16 v17 v18 v19 v20 v21 : Value} {m : Machine} {t : Trace} {B0 : Nat} (hB : B0 <= Wg)
  (hst : Stand Tryz.prog Shun B0 (o + 1) (Go.Conc.G ((Go.Conc.base 60).at ⟨#[.slice (some ⟨bacc, 0, none⟩) n cap, v1, v2, pt bm, pt Wg, v5, v6, v7, v8, v9, v10, v11, v12, v13, v14, v15, v16, v17, v18, v19, v20, v21], []⟩ [.inRegion opsWg [], .code body25]) cs) w m t) :
  Runs Tryz.prog m t fun m' t' => ∃ T w', Tmp25 bm (.slice (some ⟨bacc, 0, none⟩) n cap) T /\ Mid (cfg25 Wg C n bse o Shun bm bacc cap X code cs) (bs0 (cfg25 Wg C n bse o Shun bm bacc cap X code cs) bacc bm X) w w' /\ Stand Tryz.prog (Shun' (cfg25 Wg C n bse o Shun bm bacc cap X code cs)) w'.heap.size (o + n + 1) (Go.Conc.G (fr25' T) cs) w' m' t' := by
 have G := geo25 (Wg := Wg) (C := C) (n := n) (bse := bse) (o := o) (Shun := Shun) (bm := bm) (bacc := bacc) (cap := cap) (X := X) (code := code) (cs := cs) hCW bC bW hS
 have hW : Wg < w.heap.size := (Array.getElem?_eq_some_iff.1 hl).1
 refine (phase_runs (c := (cfg25 Wg C n bse o Shun bm bacc cap X code cs)) G hn (anch25 G A.gr) hB hb hC hl hp ht (spawns25 G A hW hC hb hr ⟨_, _, hl⟩) hst).then fun m' t' hf => ?_
 obtain ⟨a, w', hd, hst'⟩ := hf
 obtain ⟨T, hT, hrw, hg⟩ := hd.thn
 refine (will_runs (D := DNil) (β := fun w => w.heap.size) (fun _ _ => rfl) (fun w w' es h => ?_) (will_of_goes _ _ _ (goes_keep (x := w') _ _ _ ⟨rfl, rfl, rfl⟩ hg)) ⟨w'.drawn, rfl⟩ hst').mono fun m'' t'' h => ?_
 ·obtain ⟨rfl, rfl⟩ := h
  exact ⟨Nat.le_refl _, fun e he => by simp at he⟩
 ·obtain ⟨a', w'', ⟨rfl, hh, ho1, ho2⟩, hst''⟩ := h
  have hc : ∀ b : Nat, w''.heap[b]? = w'.heap[b]? := fun b => by rw [hh]
  have hce : ∀ ad, w''.cell? ad = w'.cell? ad := fun ad => by simp only [World.cell?, hh]
  refine ⟨T, w'', hT, ⟨fun q hq => (hc _).trans (hrw q hq), fun i hi => ?_, ?_, (hc _).trans hd.wg, fun b hb => (hc b).trans (hd.frame b hb), fun b o hb ho => hd.tidy b o hb ((hc b).symm.trans ho), ⟨ho1.trans hd.os.1, ho2.trans hd.os.2⟩, by rw [hh]; exact hd.low⟩, hst''⟩
  ·obtain ⟨b, h1, ⟨x, f, h2⟩, h3⟩ := hd.out i hi
   exact ⟨b, h1, ⟨x, f, (hc b).trans h2⟩, (hc b).trans h3.1, (hce _).trans h3.2⟩
  ·obtain ⟨x, h1, h2⟩ := hd.pay
   exact ⟨x, (hc _).trans h1, h2⟩
end
end Go.Mark
set_option maxRecDepth 100000
set_option maxHeartbeats 4000000
namespace Go.Mark
open Go.Conc Go.Walk Go.Phase Go.RowKit Go.Conc.Lib Go.ConcR.Gen Go.ConcN.Gen Go.Lift Go.Proofs
open Go.ConcN (WgLive Has RW DWs AtR0 PayAt)
open Go.ConcR (KK WgAt stA smA rd wr mk Payload)
theorem array22 (T : Array Value) (h : T.size = 22) : ∃ v0 v1 v2 v3 v4 v5 v6 v7 v8 v9 v10 v11 v12 v13 v14 v15 v16 v17 v18 v19 v20 v21, T = #[v0, v1, v2, v3, v4, v5, v6, v7, v8, v9, v10, v11, v12, v13, v14, v15, v16, v17, v18, v19, v20, v21] := by
 obtain ⟨l⟩ := T
 simp only [List.size_toArray] at h
 obtain _ | ⟨v0, l⟩ := l
 ·simp at h
 obtain _ | ⟨v1, l⟩ := l
 ·simp at h
 obtain _ | ⟨v2, l⟩ := l
 ·simp at h
 obtain _ | ⟨v3, l⟩ := l
 ·simp at h
 obtain _ | ⟨v4, l⟩ := l
 ·simp at h
 obtain _ | ⟨v5, l⟩ := l
 ·simp at h
 obtain _ | ⟨v6, l⟩ := l
 ·simp at h
 obtain _ | ⟨v7, l⟩ := l
 ·simp at h
 obtain _ | ⟨v8, l⟩ := l
 ·simp at h
 obtain _ | ⟨v9, l⟩ := l
 ·simp at h
 obtain _ | ⟨v10, l⟩ := l
 ·simp at h
 obtain _ | ⟨v11, l⟩ := l
 ·simp at h
 obtain _ | ⟨v12, l⟩ := l
 ·simp at h
 obtain _ | ⟨v13, l⟩ := l
 ·simp at h
 obtain _ | ⟨v14, l⟩ := l
 ·simp at h
 obtain _ | ⟨v15, l⟩ := l
 ·simp at h
 obtain _ | ⟨v16, l⟩ := l
 ·simp at h
 obtain _ | ⟨v17, l⟩ := l
 ·simp at h
 obtain _ | ⟨v18, l⟩ := l
 ·simp at h
 obtain _ | ⟨v19, l⟩ := l
 ·simp at h
 obtain _ | ⟨v20, l⟩ := l
 ·simp at h
 obtain _ | ⟨v21, l⟩ := l
 ·simp at h
 obtain _ | ⟨x, l⟩ := l
 ·exact ⟨v0, v1, v2, v3, v4, v5, v6, v7, v8, v9, v10, v11, v12, v13, v14, v15, v16, v17, v18, v19, v20, v21, rfl⟩
 ·simp at h
def DX (Shun : Loc -> Prop) (w w' : World) (es : Array Event) : Prop := w.heap.size <= w'.heap.size /\ (∀ e ∈ es, EvX Shun w'.heap.size e) /\ w'.os = w.os /\ w'.output = w.output
def DSil (w w' : World) (es : Array Event) : Prop := es = #[] /\ w'.os = w.os /\ w'.output = w.output
theorem envH {Shun : Loc -> Prop} (h : Array Obj) : Env AtRel (DX Shun) (fun w => w.heap = h) :=
 ⟨fun w w₁ e r => by obtain ⟨d, rfl⟩ := r; exact e, fun w => ⟨Nat.le_refl _, (fun e he => by simp at he), rfl, rfl⟩⟩
theorem envS (h : Array Obj) : Env AtRel DSil (fun w => w.heap = h) :=
 ⟨fun w w₁ e r => by obtain ⟨d, rfl⟩ := r; exact e, fun w => ⟨rfl, rfl, rfl⟩⟩
section
variable {R : World -> World -> Prop} {D : World -> World -> Array Event -> Prop} {Stop : Goroutine -> World -> Prop} {h : Array Obj} {n : Nat}
 {fr : Frame} {a : Act} {k : List Item} {cs : List Frame} {ops : Array Oper} {j : Nat} {rest : List Nat} {o : Oper}
theorem gh_op (E : Env R D (fun w => w.heap = h)) {v : Value} {h' : Array Obj} (ho : ops[j]? = some o) (hw : Region.wanted o (yielded ops a.tmps) = true) (hk : fr.kind ≠ .early)
  (hr : ∀ w : World, w.heap = h -> ∃ w', (execOp a.eval o).run Tryz.prog w = .ok (.value v) w' /\ D w w' (listed Tryz.prog fr.fn a o w) /\ w'.heap = h')
  (hn : GoW Tryz.prog true R D Stop (fun w => w.heap = h') n (G (fr.at (a.put o.dst v) (.inRegion ops rest :: k)) cs)) : GoW Tryz.prog true R D Stop (fun w => w.heap = h) (n + 1) (G (fr.at a (.inRegion ops (j :: rest) :: k)) cs) :=
 fun _ hw' => Goes.step rfl fun w₁ h₁ => by
  obtain ⟨w', e, hD, hh⟩ := hr w₁ (E.cl _ _ hw' h₁)
  rw [stepG_value ho hw hk e]
  exact ⟨hD, hn _ hh⟩
end
theorem listed_nil {fn : FuncId} {a : Act} {o : Oper} {w : World} (h : (execOp a.eval o).events Tryz.prog w #[] = #[]) : listed Tryz.prog fn a o w = #[] := by
 unfold listed
 rw [h, seen_none]
theorem info90 : Tryz.prog.info? 132 = some Tryz.t132 := by kernel_rfl
theorem info80 : Tryz.prog.info? 122 = some Tryz.t122 := by kernel_rfl
theorem info116 : Tryz.prog.info? 189 = some Tryz.t189 := by kernel_rfl
def zerosM (n : Nat) : Array Value := madeCells (Value.cells (.slice none 0 0)) n
theorem run_mkM {o : Oper} {ev : Operand -> Value} {x : Operand} {n : Nat} (hop : o.op = .makeSlice 122 x x) (hx : ev x = .int .i64 (n : Int)) (h31 : n < 2147483648) (w : World) :
  (execOp ev o).run Tryz.prog w = .ok (.value (sl w.heap.size n)) (w.alloc (.cells (zerosM n) 132)) /\ (execOp ev o).events Tryz.prog w #[] = #[] := by
 have hr := run_make (P := Tryz.prog) w 122 132 Tryz.t132 (.slice none 0 0) Tryz.underlying122 info90 rfl .i64 .i64 n n (by omega) (by omega) (by simp only [Tryz.t132]; omega) (by omega)
 have he := events_make (P := Tryz.prog) w 122 132 Tryz.t132 (.slice none 0 0) Tryz.underlying122 info90 rfl .i64 .i64 n n (by omega) (by omega) (by simp only [Tryz.t132]; omega) (by omega) (by simp only [Tryz.t132]; omega) #[]
 simp only [Int.toNat_natCast, Tryz.t132, Nat.mul_one] at hr
 unfold execOp zerosM
 constructor
 ·simp only [hop, hx, Sem.run_bind, hr]
  rfl
 ·simp only [hop, hx, Sem.events_bind, hr, he]
  rfl
noncomputable def pre25 : Code := match Tryz.f60.body with
 | some (.seq a (.seq b _)) => .seq a b
 | _ => .skip
theorem evX_own {Shun : Loc -> Prop} {b k B : Nat} {x : Bool} (hs : ¬ Shun (.cell ⟨b, k, none⟩)) (hb : b < B) : EvX Shun B ⟨.cell ⟨b, k, none⟩, x, false⟩ := by
 refine ⟨⟨fun y hy hS => ?_, by simp, by simp, hb⟩, fun y hy => ?_⟩
 ·simp only [MemAct.ofEvent, MemAct.touch?, Option.some.injEq] at hy
  subst hy
  exact absurd hS hs
 ·simp only [MemAct.ofEvent, MemAct.touch?, Option.some.injEq] at hy
  subst hy
  exact ⟨hs, rfl⟩
theorem set_last {w : World} {h : Array Obj} {u v : Value} {t : TypeId} (hw : w.heap = h.push (.cells #[u] t)) : (w.setCell ⟨h.size, 0, none⟩ v).heap = h.push (.cells #[v] t) := by
 have hb : w.heap[h.size]? = some (.cells #[u] t) := by rw [hw, Array.getElem?_push_size]
 have hA := aside_setCell w ⟨h.size, 0, none⟩ v
 apply Array.ext_getElem?
 intro i
 by_cases e : i = h.size
 ·subst e
  rw [setCell_eq_setRow w h.size 0 #[u] _ (0, 0) _ hb, setRow_heap w h.size _ _ _ _ hb, Array.getElem?_push_size]
  rfl
 ·rw [hA.block i e, hw, Array.getElem?_push, Array.getElem?_push]
  simp [e]
section
variable {Shun : Loc -> Prop} {h0 : Array Obj} {bacc n cap : Nat} {cs : List Frame}
def h3 (h0 : Array Obj) (n : Nat) : Array Obj := (h0.push (.cells (zerosM n) 132)).push (.cells #[sl h0.size n] 122)
def h4 (h0 : Array Obj) (n : Nat) : Array Obj := (h3 h0 n).push (.cells #[.int .u64 0, .int .u32 0] 189)
theorem pre_goes (h31 : n < 2147483648) (hS : ∀ k, ¬ Shun (.cell ⟨h0.size + 1, k, none⟩)) :
  GoW Tryz.prog true AtRel (DX Shun) (fun g w => g = G ((base 60).at ⟨#[.slice (some ⟨bacc, 0, none⟩) n cap, undef, .slice none 0 0, pt (h0.size + 1), undef, undef, undef, .slice (some ⟨bacc, 0, none⟩) n cap, .int .i64 (n : Int), sl h0.size n, undef, undef, undef, undef, undef, undef, undef, undef, undef, undef, undef, undef], []⟩ [.inRegion opsWg [0], .code body25]) cs /\ w.heap = h3 h0 n) (fun w => w.heap = h0) 60
   (G ((base 60).at ⟨#[.slice (some ⟨bacc, 0, none⟩) n cap] ++ Array.replicate 21 undef, []⟩ [.code (Tryz.f60.body.getD .skip)]) cs) := by
 have E := envH (Shun := Shun) h0
 have e1 := ev_lenS
 obtain ⟨bd, hbd⟩ : ∃ b, b = body25 := ⟨_, rfl⟩
 have hbd' := hbd
 simp only [body25, Tryz.f60] at hbd'
 rw [<- hbd]
 simp only [Tryz.f60, Option.getD_some]
 rw [<- hbd']
 walk_nrm
 repeat (first
  | refine gw_seq E ?_
  | refine gw_region_end E ?_
  | refine gw_region_1 E ?_
  | refine gw_region_5 E ?_
  | (refine gw_opk E rfl rfl (by k_ne) (fun w hF K hK => ?_); go_simp; refine hK _ (by simp [go_sem, *]) ?_; clear hK K hF w; try w_num))
 refine gh_op E rfl rfl (by k_ne) (v := sl h0.size n) (h' := h0.push (.cells (zerosM n) 132)) (fun w hw => ?_) ?_
 ·have hm := fun {o ev x} hop hx => run_mkM (o := o) (ev := ev) (x := x) (n := n) hop hx h31 w
  refine ⟨_, (hm rfl rfl).1.trans (by rw [hw]), ⟨by show _ <= (w.heap.push _).size; simp, fun e he => ?_, by rfl, by rfl⟩, by show w.heap.push _ = _; rw [hw]⟩
  have he := mem_listed he
  rw [(hm rfl rfl).2] at he
  simp at he
 walk_nrm
 replace E := envH (Shun := Shun) (h0.push (.cells (zerosM n) 132))
 refine gh_op E rfl rfl (by k_ne) (v := pt (h0.size + 1)) (h' := (h0.push (.cells (zerosM n) 132)).push (.cells #[.slice none 0 0] 122)) (fun w hw => ?_) ?_
 ·have hm := fun {o ev} hop => run_alloc (o := o) (ev := ev) hop Tryz.zeroValue122 (ev_zero 122 info80 rfl) w
  refine ⟨_, (hm rfl).1.trans (by rw [hw, Array.size_push]), ⟨by show _ <= (w.heap.push _).size; simp, fun e he => ?_, by rfl, by rfl⟩, by show w.heap.push _ = _; rw [hw]; rfl⟩
  have he := mem_listed he
  rw [(hm rfl).2] at he
  simp at he
 walk_nrm
 replace E := envH (Shun := Shun) ((h0.push (.cells (zerosM n) 132)).push (.cells #[.slice none 0 0] 122))
 refine gw_store1 E (v := sl h0.size n) (ad := ⟨h0.size + 1, 0, none⟩) (F' := fun w => w.heap = h3 h0 n) rfl rfl (by k_ne) rfl rfl rfl (fun _ => by simp) (fun _ => by simp) Tryz.sizeOf122 (fun w hw => ?_) ?_
 ·have hb : w.heap[h0.size + 1]? = some (.cells #[.slice none 0 0] 122) := by
   rw [hw, show h0.size + 1 = (h0.push (.cells (zerosM n) 132)).size by simp, Array.getElem?_push_size]
  have hsz : (w.setCell ⟨h0.size + 1, 0, none⟩ (sl h0.size n)).heap.size = w.heap.size := (aside_setCell w _ _).size
  refine ⟨⟨_, cell_of hb⟩, by simp [World.frozen?, hb], fun es hes => ⟨Nat.le_of_eq hsz.symm, fun e he => ?_, (aside_setCell w _ _).os, (aside_setCell w _ _).output⟩, ?_⟩
  ·rw [hes e he]
   exact evX_own (hS 0) (by rw [hsz]; exact lt_of_heap hb)
  ·have := set_last (v := sl h0.size n) hw
   rw [Array.size_push] at this
   exact this
 replace E := envH (Shun := Shun) (h3 h0 n)
 walk_nrm
 refine gw_region_end E ?_
 refine gw_seq E ?_
 refine gw_region_1 E ?_
 exact gw_stop E (fun w hw => ⟨rfl, hw⟩)
theorem wg_goes :
  GoW Tryz.prog true AtRel DSil (fun g w => g = G ((base 60).at ⟨#[.slice (some ⟨bacc, 0, none⟩) n cap, undef, .slice none 0 0, pt (h0.size + 1), pt (h0.size + 2), undef, undef, .slice (some ⟨bacc, 0, none⟩) n cap, .int .i64 (n : Int), sl h0.size n, undef, undef, undef, undef, undef, undef, undef, undef, undef, undef, undef, undef], []⟩ [.inRegion opsWg [], .code body25]) cs /\ w.heap = h4 h0 n) (fun w => w.heap = h3 h0 n) 5
   (G ((base 60).at ⟨#[.slice (some ⟨bacc, 0, none⟩) n cap, undef, .slice none 0 0, pt (h0.size + 1), undef, undef, undef, .slice (some ⟨bacc, 0, none⟩) n cap, .int .i64 (n : Int), sl h0.size n, undef, undef, undef, undef, undef, undef, undef, undef, undef, undef, undef, undef], []⟩ [.inRegion opsWg [0], .code body25]) cs) := by
 have E := envS (h3 h0 n)
 refine gh_op E rfl rfl (by k_ne) (v := pt (h0.size + 2)) (h' := h4 h0 n) (fun w hw => ?_) ?_
 ·have hm := fun {o ev} hop => run_alloc (o := o) (ev := ev) hop Tryz.zeroValue189 (ev_zero 189 info116 rfl) w
  have hsz : w.heap.size = h0.size + 2 := by rw [hw]; simp [h3]
  refine ⟨_, (hm rfl).1.trans (by rw [hsz]), ⟨listed_nil (hm rfl).2, by rfl, by rfl⟩, by show w.heap.push _ = _; rw [hw]; rfl⟩
 exact gw_stop (envS (h4 h0 n)) (fun w hw => ⟨rfl, hw⟩)
end
end Go.Mark
