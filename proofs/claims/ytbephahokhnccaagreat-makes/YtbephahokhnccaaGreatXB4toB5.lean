/-
  Many workers at once: a step of whoever is not the starter keeps the invariant and lowers the measure.
-/
import Derived.Test.YtbephahokhnccaaGreatXB2toB3
set_option linter.unusedSectionVars false
namespace Go.Phase
open Go.Conc Go.Lift
open Go.ConcN (WgLive PayAt Has AtR0 AtK1 WSit RW CTag CT Apart OkW Ok0 ShN RelBy WD upd upd_same upd_ne PermW Vc Ssum Fsum phi pend cnt sumTo sumTo_upd sumTo_upd_out OpenSt isW3 Vc_upd Vc_le le_sumTo)
open Go.ConcR (KK wgBlock WgAt stA smA rd wr mk Payload Bk g_of_ofEvents)
variable [Payload]
def Inv (c : Cfg) (w0 : World) (t0 : Trace) (μ : Nat × Nat) (m : Machine) (t : Trace) : Prop :=
  ∃ (gs : Array Goroutine) (w : World) (sl : Option (Nat × Nat)) (Low j : Nat) (D : Nat → WD) (Lw : Nat → Nat) (Bo : Nat → Option Nat) (RB : Nat → Nat → Prop) (tag : CTag) (f0 d0 : Nat) (a : Goroutine) (st sm : Int),
    m = crowd gs w sl ∧ gs[0]? = some a ∧ CX c Low tag j f0 d0 a w ∧ Com c w0 t0 Low j gs w t D Lw Bo RB d0 ∧ WgAt c.ty c.Wg w st sm ∧ Go.ConcN.Mode (c.o + j) D tag st sm ∧
    μ = (phi (c.o + c.n) (Vc (c.o + j) D) tag + Ssum (c.o + j) D, f0 + 2 * Fsum (c.o + j) D)
/-- the machine's next step keeps it -/
def Keeps (c : Cfg) (w0 : World) (t0 t : Trace) (μ : Nat × Nat) (s : Stepped × Array MemOp) : Prop := ∃ m₁ ops μ', s = (.next m₁, ops) ∧ Lt2 μ' μ ∧ Inv c w0 t0 μ' m₁ (t ++ ops)
section
variable {c : Cfg} {w0 w w' : World} {t0 t : Trace} {Low j : Nat} {gs : Array Goroutine} {sl : Option (Nat × Nat)} {D : Nat → WD} {Lw : Nat → Nat} {Bo Bo' : Nat → Option Nat} {RB : Nat → Nat → Prop} {tag : CTag} {f0 d0 : Nat} {a : Goroutine} {st sm : Int}
theorem other_step (G : Geo c) (ha : gs[0]? = some a) (hcs : CX c Low tag j f0 d0 a w) {k : Nat} (hk : k < c.o + j) {g g' : Goroutine} {es : Array Event} (hg : gs[k + 1]? = some g) (hgo : stepG c.P false g w = .go g' w' es) (hR : R0 c w w') {x : WD} {st' sm' : Int}
    (hcom' : Com c w0 t0 Low j ((gs.map (woken c.P g g' w')).setIfInBounds (k + 1) g') w' (t ++ MemOp.ofEvents (k + 1) g.frame.fn g.frame.place es) (upd D k x) Lw Bo' RB d0) (hwg' : WgAt c.ty c.Wg w' st' sm')
    (hmode : ∀ tag', (tag' = tag ∨ (tag = .blk ∧ tag' = .w3)) → (mayWake c.P g = true → g'.status = .running → tag' ≠ .blk) → Go.ConcN.Mode (c.o + j) (upd D k x) tag' st' sm')
    (hlt : (x.stage < (D k).stage ∧ cnt x ≤ cnt (D k)) ∨ (x.stage = (D k).stage ∧ x.fuel + 1 ≤ (D k).fuel)) :
    Keeps c w0 t0 t (phi (c.o + c.n) (Vc (c.o + j) D) tag + Ssum (c.o + j) D, f0 + 2 * Fsum (c.o + j) D) (runT c.P (crowd gs w sl) (k + 1)) := by
  obtain ⟨tag', f', hcs', hf', htag, hwk⟩ := hcs.wokenBy G.anch hR g g'
  have hrun := runT_crowd_go (P := c.P) (sl := sl) (i := k + 1) hg (by simpa using hgo)
  have e1 := sumTo_upd D x cnt hk
  have e2 := sumTo_upd D x WD.stage hk
  have e3 := sumTo_upd D x WD.fuel hk
  refine ⟨_, _, (phi (c.o + c.n) (Vc (c.o + j) (upd D k x)) tag' + Ssum (c.o + j) (upd D k x), f' + 2 * Fsum (c.o + j) (upd D k x)), hrun, ?_,
    _, w', sl, Low, j, upd D k x, Lw, Bo', RB, tag', f', d0, woken c.P g g' w' a, st', sm', rfl, ?_, hcs', hcom', hwg', hmode tag' htag hwk, rfl⟩
  · rw [Go.ConcN.phi_retag _ _ htag]
    simp only [Vc, Ssum, Fsum] at *
    rcases hlt with ⟨h1, h2⟩ | ⟨h1, h2⟩
    · refine Prod.Lex.left _ _ ?_
      have := Go.ConcN.phi_mono (c.o + c.n) (v' := sumTo (c.o + j) fun a => cnt (upd D k x a)) (v := sumTo (c.o + j) fun a => cnt (D a)) (by omega) tag
      omega
    · have ec : cnt x = cnt (D k) := by simp only [cnt, h1]
      have ev : (sumTo (c.o + j) fun a => cnt (upd D k x a)) = sumTo (c.o + j) fun a => cnt (D a) := by omega
      have es' : (sumTo (c.o + j) fun a => (upd D k x a).stage) = sumTo (c.o + j) fun a => (D a).stage := by omega
      rw [ev, es']
      exact Prod.Lex.right _ (by omega)
  · rw [get_ms _ _ _ _ (by omega), ha]; rfl
/-- an old leaver's step -/
theorem step_old (G : Geo c) (ha : gs[0]? = some a) (hcs : CX c Low tag j f0 d0 a w) (hcom : Com c w0 t0 Low j gs w t D Lw Bo RB d0) (hwg : WgAt c.ty c.Wg w st sm) (hmode : Go.ConcN.Mode (c.o + j) D tag st sm) {i : Nat} (hi : i < c.o) {g : Goroutine} (hg : gs[i + 1]? = some g) (hrun : g.status = .running) :
    Keeps c w0 t0 t (phi (c.o + c.n) (Vc (c.o + j) D) tag + Ssum (c.o + j) D, f0 + 2 * Fsum (c.o + j) D) (runT c.P (crowd gs w sl) (i + 1)) := by
  obtain ⟨g₁, hg₁, hs1, hq⟩ := hcom.old i hi
  rw [hg] at hg₁
  cases hg₁
  generalize hfu : (D i).fuel = m at hq
  cases m with
  | zero => rw [hq.1] at hrun; cases hrun
  | succ q =>
    rcases hq with ⟨hf, _⟩ | ⟨_, g', es, hm, hstep, hq'⟩
    · rw [hf] at hrun; cases hrun
    · refine other_step G ha hcs (by omega) hg (hstep w) (.refl w) (hcom.stepO G hi hm hq') hwg (fun tag' ht _ => Go.ConcN.Mode.retag ?_ ht) (.inr ⟨hs1.symm, by rw [hfu]; exact Nat.le_refl _⟩)
      have := hmode.same (i := i) q (deafBehind (D i).deaf es)
      rwa [hs1] at this
/-! ### how the world turns -/
theorem stp_refl (w : World) : Stp c w w := ⟨Nat.le_refl _, fun _ h => h, fun _ _ => rfl, id, rfl, rfl⟩
theorem stp_at (w : World) (d : Nat) : Stp c w (w.at d) := ⟨Nat.le_refl _, fun _ h => h, fun _ _ => rfl, id, rfl, rfl⟩
section
variable (G : Geo c) (hcom : Com c w0 t0 Low j gs w t D Lw Bo RB d0)
include G hcom
/-- a turn of the group's cells -/
theorem turn_wg (hA : Aside c.Wg w w') (hl : WgLive c.ty c.Wg w') :
    R0 c w w' ∧ Stp c w w' ∧ (∀ b, b < w.heap.size → b ≠ c.Wg → b ≠ c.C → ¬ IsB c w b → ¬ IsB c w' b) ∧ (∀ i, i < j → RX c (Lw i) i (fun b => Bo i = some b) w w') ∧ PayAt c.C c.n w' := by
  have hC := hA.block c.C G.hCW
  have hp : PayAt c.C c.n w' := let ⟨cs, h1, h2⟩ := hcom.pay; ⟨cs, hC.trans h1, h2⟩
  have hb : ∀ b, IsB c w b → w'.heap[b]? = w.heap[b]? := fun b hb => hA.block b (fun e => notB_wg G hcom.live (e ▸ hb))
  have ht : Tidy c w → Tidy c w' := fun h b o hb ho => by
    by_cases e : b = c.Wg
    · subst e
      obtain ⟨st, sm, hw⟩ := hl
      unfold WgAt wgBlock at hw
      rw [hw] at ho
      cases ho
      exact ⟨_, _, rfl⟩
    · rw [hA.block b e] at ho
      exact h b o hb ho
  refine ⟨⟨Nat.le_of_eq hA.size.symm, fun b _ h _ _ => hA.block b h, fun _ => hl⟩, ⟨Nat.le_of_eq hA.size.symm, fun b h => h.of_block (hb b h), fun b h => hA.block b (by have := G.bW; omega), ht, hA.os, hA.output⟩, fun b _ h2 _ h4 x => h4 (x.of_block (hA.block b h2).symm), fun i hi => ⟨Nat.le_of_eq hA.size.symm, fun b _ h _ _ => hA.block b h, fun b h => hb b (hcom.bs i b h).2.2, fun _ => hl, fun _ => hp, Go.ConcN.cell_of_block hC i⟩, hp⟩
/-- a worker makes its block -/
theorem turn_make (x : Array Value) :
    R0 c w (made c w x) ∧ Stp c w (made c w x) ∧ (∀ b, b < w.heap.size → b ≠ c.Wg → b ≠ c.C → ¬ IsB c w b → ¬ IsB c (made c w x) b) ∧ (∀ i, i < j → RX c (Lw i) i (fun b => Bo i = some b) w (made c w x)) ∧ PayAt c.C c.n (made c w x) ∧ IsB c (made c w x) w.heap.size ∧ WgLive c.ty c.Wg (made c w x) ∧ ∀ st sm, WgAt c.ty c.Wg w st sm → WgAt c.ty c.Wg (made c w x) st sm := by
  have hs : (made c w x).heap.size = w.heap.size + 1 := by simp [made]
  have hold : ∀ b, b < w.heap.size → (made c w x).heap[b]? = w.heap[b]? := fun b hb => by
    simp only [made, Array.getElem?_push]
    rw [if_neg (by omega)]
  have hW := hold c.Wg (Nat.lt_of_lt_of_le hcom.lowW hcom.lowS)
  have hC := hold c.C (Nat.lt_of_lt_of_le hcom.lowC hcom.lowS)
  have hlv : WgLive c.ty c.Wg (made c w x) := let ⟨st, sm, hl⟩ := hcom.live; ⟨st, sm, hl.of_block hW⟩
  have hp : PayAt c.C c.n (made c w x) := let ⟨cs, h1, h2⟩ := hcom.pay; ⟨cs, hC.trans h1, h2⟩
  refine ⟨⟨by omega, fun b h _ _ _ => hold b h, fun _ => hlv⟩, ⟨by omega, fun b h => h.of_block (hold b h.lt), fun b h => hold b (by have := hcom.lowB; have := hcom.lowS; omega), fun h b o hb ho => ?_, rfl, rfl⟩, fun b h _ _ h4 y => h4 (y.of_block (hold b h).symm), fun i hi => ⟨by omega, fun b h _ _ _ => hold b (by have := hcom.low i hi; have := hcom.lowS; omega), fun b h => hold b (hcom.bs i b h).2.2.lt, fun _ => hlv, fun _ => hp, Go.ConcN.cell_of_block hC i⟩, hp, ⟨x, (0, 0), ?_⟩, hlv, fun st sm h => h.of_block hW⟩
  · by_cases e : b < w.heap.size
    · rw [hold b e] at ho
      exact h b o hb ho
    · simp only [made, Array.getElem?_push] at ho
      split at ho
      · cases ho
        exact ⟨_, _, rfl⟩
      · rw [Array.getElem?_eq_none (by omega)] at ho
        cases ho
  · exact Array.getElem?_push_size
/-- worker i turns its block, or its cell -/
theorem turn_own {i b : Nat} (hB : Bo i = some b) {Low' : Nat} {es : Array Event} (hD : DB c Low' b i w w' es) :
    R0 c w w' ∧ Stp c w w' ∧ (∀ b, b < w.heap.size → b ≠ c.Wg → b ≠ c.C → ¬ IsB c w b → ¬ IsB c w' b) ∧ (∀ i', i' < j → i' ≠ i → RX c (Lw i') i' (fun b => Bo i' = some b) w w') ∧ PayAt c.C c.n w' ∧ IsB c w' b ∧ WgLive c.ty c.Wg w' ∧ ∀ st sm, WgAt c.ty c.Wg w st sm → WgAt c.ty c.Wg w' st sm := by
  obtain ⟨_, hb1, hb2⟩ := hcom.bs i b hB
  have ne : ∀ b', ¬ IsB c w b' → b' ≠ b := fun b' h e => h (e ▸ hb2)
  have hbC : b ≠ c.C := fun e => notB_pay G hcom.pay (e ▸ hb2)
  have hW := hD.block c.Wg (ne _ (notB_wg G hcom.live)) (Ne.symm G.hCW)
  have hlv : WgLive c.ty c.Wg w' := let ⟨st, sm, hl⟩ := hcom.live; ⟨st, sm, hl.of_block hW⟩
  have hp := hD.pay hcom.pay
  refine ⟨⟨Nat.le_of_eq hD.size.symm, fun b' _ _ h3 h4 => hD.block b' (ne b' h4) h3, fun _ => hlv⟩, ⟨Nat.le_of_eq hD.size.symm, fun b' h => ?_, fun b' h => hD.block b' (by omega) (by have := G.bC; omega), hD.tidy, hD.os⟩, fun b' _ _ h3 h4 y => h4 (y.of_block (hD.block b' (ne b' h4) h3).symm), fun i' hi' hne => ⟨Nat.le_of_eq hD.size.symm, fun b' _ _ h3 h4 => hD.block b' (ne b' h4) h3, fun b' h => hD.block b' (fun e => hne (hcom.inj _ _ _ h (e ▸ hB))) (fun e => notB_pay G hcom.pay (e ▸ (hcom.bs i' b' h).2.2)), fun _ => hlv, fun _ => hp, hD.cells i' hne⟩, hp, hD.isb hb2, hlv, fun st sm h => h.of_block hW⟩
  by_cases e : b' = b
  · subst e; exact hD.isb h
  · exact h.of_block (hD.block b' e (fun e' => notB_pay G hcom.pay (e' ▸ h)))
end
theorem deaf_same {es : Array Event} (h : ∀ e ∈ es, e.loc ≠ .mark .disable ∧ e.loc ≠ .mark .enable) (d : Nat) : deafBehind d es = d := deafBehind_still h d
theorem evr_deaf {L : Nat} {e : Event} (h : EvR c L w e) : e.loc ≠ .mark .disable ∧ e.loc ≠ .mark .enable := by
  rcases h with ⟨a, rfl, _⟩ | h
  · simp
  · exact (neutral_norel (c := c) h).2
/-- a worker's step, ahead of its release -/
theorem step_early (G : Geo c) (ha : gs[0]? = some a) (hcs : CX c Low tag j f0 d0 a w) (hcom : Com c w0 t0 Low j gs w t D Lw Bo RB d0) (hwg : WgAt c.ty c.Wg w st sm) (hmode : Go.ConcN.Mode (c.o + j) D tag st sm) {i : Nat} (hi : i < j) {g : Goroutine} (hg : gs[c.o + i + 1]? = some g)
    (hs7 : (D (c.o + i)).stage = 7) (hs : WX c i (Lw i) (Bo i) 7 (D (c.o + i)).fuel (D (c.o + i)).deaf g w) :
    Keeps c w0 t0 t (phi (c.o + c.n) (Vc (c.o + j) D) tag + Ssum (c.o + j) D, f0 + 2 * Fsum (c.o + j) D) (runT c.P (crowd gs w sl) (c.o + i + 1)) := by
  generalize hfu : (D (c.o + i)).fuel = m at hs
  generalize hde : (D (c.o + i)).deaf = dd at hs
  have hdk : Deaf t (c.o + i + 1) = dd := by rw [hcom.deafW _ (by omega), hde]
  have same7 : ∀ m' : Nat, Go.ConcN.Mode (c.o + j) (upd D (c.o + i) ⟨7, m', 0⟩) tag st sm := fun m' => by
    have := hmode.same (i := c.o + i) m' 0
    rwa [hs7] at this
  generalize hbo : Bo i = bo at hs
  cases hs with
  | @a m mB _ _ h =>
    rcases Goes.cases h with hstop | ⟨m', rfl, hstep⟩
    · obtain ⟨_, g', x, es, hgo, hne, hB⟩ := hstop w (RX.refl w)
      obtain ⟨t1, t2, t3, t4, t5, t6, t7, t8⟩ := turn_make G hcom x
      refine other_step (Bo' := upd Bo i (some w.heap.size)) (x := ⟨7, mB, 0⟩) G ha hcs (by omega) hg hgo t1 (hcom.stepW G hi t2 t3 (fun i' h1 _ => t4 i' h1) ?_ (fun i' e => upd_ne Bo _ e) (fun b hb => by rw [hbo] at hb; cases hb) (fun b hb => ?_) (fun e he => .inl (.inr (hne e he))) ?_ (fun h => absurd h (by omega)) t5 t7) (t8 st sm hwg) (fun _ ht _ => (same7 mB).retag ht) (.inr ⟨hs7.symm, by rw [hfu]; simp only; omega⟩)
      · rw [upd_same]; exact .b hB
      · rw [upd_same] at hb
        cases hb
        exact ⟨.inr (Nat.le_refl _), Nat.le_trans hcom.lowB hcom.lowS, t6⟩
      · rw [hde]; exact deaf_same (fun e he => (neutral_norel (c := c) (hne e he)).2) 0
    · obtain ⟨g', w', es, hgo, ⟨⟨d, rfl⟩, hev⟩, hg'⟩ := hstep w (RX.refl w)
      refine other_step (Bo' := Bo) (x := ⟨7, m' + mB + 1, 0⟩) G ha hcs (by omega) hg hgo (.at w d) (hcom.stepW G hi (stp_at w d) (fun _ _ _ _ h => h) (fun i' _ _ => RX.at w d) ?_ (fun _ _ => rfl) (fun _ h => h) (fun b hb => by rw [hbo] at hb; cases hb) (fun e he => .inl (hev e he)) ?_ (fun h => absurd h (by omega)) hcom.pay hcom.live) hwg (fun _ ht _ => (same7 _).retag ht) (.inr ⟨hs7.symm, by rw [hfu]; simp only; omega⟩)
      · rw [hbo]; exact .a hg'
      · rw [hde]; exact deaf_same (fun e he => evr_deaf (hev e he)) 0
  | @b b _ _ _ h =>
    rcases Goes.cases h with hstop | ⟨m', rfl, hstep⟩
    · obtain ⟨⟨v, _, hhas, g', hgo, m₂, hk⟩, hout⟩ := hstop w (RX.refl w)
      refine other_step (Bo' := Bo) (x := ⟨6, m₂, 0⟩) G ha hcs (by omega) hg hgo (.refl w) (hcom.stepW G hi (stp_refl w) (fun _ _ _ _ h => h) (fun i' _ _ => RX.refl w) ?_ (fun _ _ => rfl) (fun _ h => h) (fun b' hb => ⟨.inl hb, (hcom.bs i b' hb).2⟩) (fun e he => ?_) ?_ (fun _ => ⟨t.size, RelBy.new hdk _ _⟩) hcom.pay hcom.live) hwg (fun _ ht _ => (hmode.counted (by omega) (by omega) (.inl rfl) _ _).retag ht) (.inl ⟨by simp only; omega, by simp [cnt, hs7]⟩)
      · rw [hbo]; exact .c (v := v) (by omega) (.k1 hk) hout
      · simp at he; subst he; exact .inr (.inr (.inr rfl))
      · rw [hde]; rfl
    · obtain ⟨g', w', es, hgo, hD, hg'⟩ := hstep w (RX.refl w)
      obtain ⟨t1, t2, t3, t4, t5, t6, t7, t8⟩ := turn_own G hcom hbo hD
      refine other_step (Bo' := Bo) (x := ⟨7, m', 0⟩) G ha hcs (by omega) hg hgo t1 (hcom.stepW G hi t2 t3 t4 ?_ (fun _ _ => rfl) (fun _ h => h) (fun b' hb => ⟨.inl hb, (hcom.bs i b' hb).2.1, ?_⟩) (fun e he => ?_) ?_ (fun h => absurd h (by omega)) t5 t7) (t8 st sm hwg) (fun _ ht _ => (same7 _).retag ht) (.inr ⟨hs7.symm, by rw [hfu]; exact Nat.le_refl _⟩)
      · rw [hbo]; exact .b hg'
      · rw [hbo] at hb; cases hb; exact t6
      · rcases hD.ev e he with h1 | ⟨a, x, rfl, h1⟩
        · exact .inl h1
        · refine .inr (.inl ⟨a, x, rfl, ?_⟩)
          rcases h1 with h1 | h1
          · exact .inr (by rw [h1]; exact hbo)
          · exact .inl h1
      · rw [hde]
        refine deaf_same (fun e he => ?_) 0
        rcases hD.ev e he with h1 | ⟨a, x, rfl, _⟩
        · exact evr_deaf h1
        · simp
  | c h6 _ _ => omega
end
end Go.Phase
/-
  Many workers at once: a worker's step behind its release.
-/
set_option linter.unusedSectionVars false
namespace Go.Phase
open Go.Conc Go.Lift
open Go.ConcN (WgLive PayAt Has AtR0 AtK1 WSit RW CTag CT RelBy WD upd upd_same upd_ne Vc Ssum Fsum phi pend cnt sumTo OpenSt isW3 Vc_upd Vc_le le_sumTo)
open Go.ConcR (KK wgBlock WgAt stA smA rd wr mk Payload Bk g_of_ofEvents)
variable [Payload]
/-- one who is no longer counted: the others' states stand -/
theorem open_quit {J k q : Nat} {D : Nat → WD} (h : OpenSt J D) : OpenSt J (upd D k ⟨1, q, 1⟩) := fun a ha => by
  by_cases e : a = k
  · subst e; rw [upd_same]; exact .inr (.inr (.inr rfl))
  · rw [upd_ne D _ e]; exact h a ha
/-- the count behind an add of -1, one of the counted being k -/
theorem count_down {J k q : Nat} {D : Nat → WD} (hk : k < J) (hc : cnt (D k) = 1) : Vc J (upd D k ⟨1, q, 1⟩) + 1 = Vc J D := by
  have := Vc_upd D (⟨1, q, 1⟩ : WD) hk
  have : cnt (⟨1, q, 1⟩ : WD) = 0 := rfl
  omega
/-- where the one that is counted is the only one, all others leave -/
theorem only_one {J k : Nat} {D : Nat → WD} (hk : k < J) (hc : cnt (D k) = 1) (h1 : Vc J D = 1) (ho : OpenSt J D) : ∀ a, a < J → a ≠ k → (D a).stage = 1 := fun a ha e => by
  have c0 := Go.ConcN.others_uncounted hk h1 hc a ha e
  have := ho a ha
  simp only [cnt] at c0
  split at c0 <;> omega
/-- the last one on its way -/
theorem mode_last {J k s m : Nat} {D : Nat → WD} {tag : CTag} (hW : isW3 tag) (hk : k < J) (hs : s = 4 ∨ s = 3 ∨ s = 2) (ho : ∀ a, a < J → a ≠ k → (D a).stage = 1) : Go.ConcN.Mode J (upd D k ⟨s, m, 1⟩) tag (if s = 2 then 0 else 1) 0 := by
  have := Go.ConcN.Mode.last (j := J) (D := upd D k ⟨s, m, 1⟩) (tag := tag) k hW hk (by rw [upd_same]; exact hs) (fun a ha e => by rw [upd_ne D _ e]; exact ho a ha e)
  rwa [upd_same] at this
section
variable {c : Cfg} {w0 w : World} {t0 t : Trace} {Low j : Nat} {gs : Array Goroutine} {sl : Option (Nat × Nat)} {D : Nat → WD} {Lw : Nat → Nat} {Bo : Nat → Option Nat} {RB : Nat → Nat → Prop} {tag : CTag} {f0 d0 : Nat} {a : Goroutine} {st sm : Int}
set_option maxHeartbeats 1600000 in
theorem step_late (G : Geo c) (hn : c.o + c.n < 2147483647) (ha : gs[0]? = some a) (hcs : CX c Low tag j f0 d0 a w) (hcom : Com c w0 t0 Low j gs w t D Lw Bo RB d0) (hwg : WgAt c.ty c.Wg w st sm) (hmode : Go.ConcN.Mode (c.o + j) D tag st sm) {i : Nat} (hi : i < j) {g : Goroutine} (hg : gs[c.o + i + 1]? = some g) (hrun : g.status = .running)
    {b : Nat} (hbo : Bo i = some b) {v : Value} {s m dd : Nat} (hst : (D (c.o + i)).stage = s) (hfu : (D (c.o + i)).fuel = m) (hde : (D (c.o + i)).deaf = dd) (h6 : s ≤ 6) (hs : WSit c.P c.ty c.Wg c.C c.n (fun _ _ => False) (fun _ _ => False) 0 (i + 1) v s m dd g w) (hout : c.Out i b w) :
    Keeps c w0 t0 t (phi (c.o + c.n) (Vc (c.o + j) D) tag + Ssum (c.o + j) D, f0 + 2 * Fsum (c.o + j) D) (runT c.P (crowd gs w sl) (c.o + i + 1)) := by
  have hk : c.o + i < c.o + j := by omega
  have hbnd := hcs.bound
  have hVj := Vc_le (c.o + j) D
  have hdk : Deaf t (c.o + i + 1) = dd := by rw [hcom.deafW _ hk, hde]
  -- a step of the library's bookkeeping
  have bookG : ∀ {g' : Goroutine} {w' : World} {es : Array Event} {s' m' dd' : Nat} {st' sm' : Int}, stepG c.P false g w = .go g' w' es → Aside c.Wg w w' → WgAt c.ty c.Wg w' st' sm' → (∀ e ∈ es, Bk c.Wg e) →
      (∀ jx e, es[jx]? = some e → (MemAct.ofEvent e).touch? = none ∨ 0 < deafBehind dd (es.extract 0 jx)) → WSit c.P c.ty c.Wg c.C c.n (fun _ _ => False) (fun _ _ => False) 0 (i + 1) v s' m' dd' g' w' → s' ≤ 6 → deafBehind dd es = dd' →
      (∀ tag', (tag' = tag ∨ (tag = .blk ∧ tag' = .w3)) → (mayWake c.P g = true → g'.status = .running → tag' ≠ .blk) → Go.ConcN.Mode (c.o + j) (upd D (c.o + i) ⟨s', m', dd'⟩) tag' st' sm') → ((s' < s ∧ cnt ⟨s', m', dd'⟩ ≤ cnt (D (c.o + i))) ∨ (s' = s ∧ m' + 1 = m)) →
      Keeps c w0 t0 t (phi (c.o + c.n) (Vc (c.o + j) D) tag + Ssum (c.o + j) D, f0 + 2 * Fsum (c.o + j) D) (runT c.P (crowd gs w sl) (c.o + i + 1)) := by
    intro g' w' es s' m' dd' st' sm' hgo hA hwg' hbk hd hs' hs6 hdd hmode' hlt
    obtain ⟨t1, t2, t3, t4, t5⟩ := turn_wg G hcom hA ⟨_, _, hwg'⟩
    refine other_step (Bo' := Bo) (x := ⟨s', m', dd'⟩) G ha hcs hk hg hgo t1 (hcom.stepW G hi t2 t3 (fun i' h1 _ => t4 i' h1) ?_ (fun _ _ => rfl) (fun _ h => h) (fun b' hb => ⟨.inl hb, (hcom.bs i b' hb).2.1, t2.isb b' (hcom.bs i b' hb).2.2⟩) (fun e he => .inr (.inr (.inl (hbk e he)))) ?_ (fun _ => ?_) t5 ⟨_, _, hwg'⟩) hwg' hmode' ?_
    · rw [hbo]
      exact .c (v := v) hs6 hs' (G.out i b w w' ((t4 i hi).mine b hbo) (t4 i hi).cell hout)
    · rw [hde]; exact hdd
    · obtain ⟨r, hr⟩ := hcom.rel i hi (by omega)
      exact ⟨r, hr.book hdk _ _ hbk hd⟩
    · rw [hst, hfu]
      rcases hlt with h | ⟨h1, h2⟩
      · exact .inl h
      · exact .inr ⟨h1, by simp only; omega⟩
  have book : ∀ {g' : Goroutine} {w' : World} {es : Array Event} {s' m' dd' : Nat} {st' sm' : Int}, stepG c.P false g w = .go g' w' es → Aside c.Wg w w' → WgAt c.ty c.Wg w' st' sm' → (∀ e ∈ es, Bk c.Wg e) →
      (∀ jx e, es[jx]? = some e → (MemAct.ofEvent e).touch? = none ∨ 0 < deafBehind dd (es.extract 0 jx)) → WSit c.P c.ty c.Wg c.C c.n (fun _ _ => False) (fun _ _ => False) 0 (i + 1) v s' m' dd' g' w' → s' ≤ 6 → deafBehind dd es = dd' →
      Go.ConcN.Mode (c.o + j) (upd D (c.o + i) ⟨s', m', dd'⟩) tag st' sm' → ((s' < s ∧ cnt ⟨s', m', dd'⟩ ≤ cnt (D (c.o + i))) ∨ (s' = s ∧ m' + 1 = m)) →
      Keeps c w0 t0 t (phi (c.o + c.n) (Vc (c.o + j) D) tag + Ssum (c.o + j) D, f0 + 2 * Fsum (c.o + j) D) (runT c.P (crowd gs w sl) (c.o + i + 1)) :=
    fun hgo hA hwg' hbk hd hs' hs6 hdd hm hlt => bookG hgo hA hwg' hbk hd hs' hs6 hdd (fun _ ht _ => hm.retag ht) hlt
  have idle : ∀ {g' : Goroutine} {m' : Nat}, stepG c.P false g w = .go g' w #[] → WSit c.P c.ty c.Wg c.C c.n (fun _ _ => False) (fun _ _ => False) 0 (i + 1) v s m' dd g' w → m' + 1 = m →
      Keeps c w0 t0 t (phi (c.o + c.n) (Vc (c.o + j) D) tag + Ssum (c.o + j) D, f0 + 2 * Fsum (c.o + j) D) (runT c.P (crowd gs w sl) (c.o + i + 1)) := by
    intro g' m' hgo hs' hm
    refine book hgo (.refl c.Wg w) hwg (by simp) (by simp) hs' h6 rfl ?_ (.inr ⟨rfl, hm⟩)
    have := hmode.same (i := c.o + i) m' dd
    rwa [hst] at this
  have one : ∀ {e0 : Event} {d : Nat} {jx : Nat} {e : Event}, (#[e0] : Array Event)[jx]? = some e → 0 < d → (MemAct.ofEvent e).touch? = none ∨ 0 < deafBehind d ((#[e0] : Array Event).extract 0 jx) := by
    intro e0 d jx e he hd
    match jx, he with
    | 0, _ => exact .inr (by simpa [deafBehind] using hd)
    | jx + 1, he => simp at he
  cases hs with
  | r0 h => omega
  | k1 h =>
    rcases Goes.cases h with hstop | ⟨m', rfl, hstep⟩
    · obtain ⟨_, g', hgo, m₂, hk'⟩ := hstop w (RW.refl w)
      refine book hgo (.refl c.Wg w) hwg (by intro e he; simp at he; subst he; exact .inl rfl) ?_ (.d1 hk') (by omega) rfl (hmode.counted hk (by omega) (.inr rfl) _ _) (.inl ⟨by omega, by simp [cnt, hst]⟩)
      intro jx e he
      have := Array.mem_of_getElem? he
      simp at this
      subst this
      exact .inl rfl
    · obtain ⟨g', w', es, hgo, ⟨rfl, rfl⟩, hg'⟩ := hstep w (RW.refl w)
      exact idle hgo (.k1 hg') rfl
  | d1 h =>
    rcases Goes.cases h with hstop | ⟨m', rfl, hstep⟩
    · obtain ⟨_, hall⟩ := hstop w (RW.refl w)
      have hc1 : cnt (D (c.o + i)) = 1 := by simp [cnt, hst]
      have hV1 : 1 ≤ Vc (c.o + j) D := by have := le_sumTo (f := fun x => cnt (D x)) hk; simp only [Vc]; omega
      have bk2 : ∀ e ∈ #[rd (stA c.Wg), wr (stA c.Wg)], Bk c.Wg e := Go.ConcN.bk_rw
      have df2 : ∀ jx e, (#[rd (stA c.Wg), wr (stA c.Wg)] : Array Event)[jx]? = some e → (MemAct.ofEvent e).touch? = none ∨ 0 < deafBehind 1 ((#[rd (stA c.Wg), wr (stA c.Wg)] : Array Event).extract 0 jx) := by
        intro jx e he
        match jx, he with
        | 0, _ => exact .inr (by simp [deafBehind])
        | 1, _ => exact .inr (by simp [deafBehind, rd])
        | jx + 2, he => simp at he
      cases hmode with
      | opn h1 h2 h3 =>
        obtain ⟨u, hu⟩ : ∃ u, Vc (c.o + j) D + pend tag = u + 1 := ⟨Vc (c.o + j) D + pend tag - 1, by omega⟩
        rw [hu] at hwg
        obtain ⟨g', hgo, _, hq⟩ := hall u 0 (by omega) (by omega) (by simpa using hwg)
        obtain ⟨q, hq⟩ := hq (by omega)
        have hd := count_down (q := q) hk hc1
        refine book hgo (aside_setCell w (stA c.Wg) _) (hwg.setSt _) bk2 df2 (.quit hq) (by omega) rfl ?_ (.inl ⟨by omega, by simp [cnt]⟩)
        have e : ((u : Nat) : Int) * KK + ((0 : Nat) : Int) = ((Vc (c.o + j) (upd D (c.o + i) ⟨1, q, 1⟩) + pend tag : Nat) : Int) * KK := by
          rw [show Vc (c.o + j) (upd D (c.o + i) ⟨1, q, 1⟩) + pend tag = u by omega]; simp
        rw [e]
        exact .opn h1 (open_quit h2) (fun vs ev => by have := h3 vs ev; omega)
      | reg h1 h2 h3 =>
        obtain ⟨u, hu⟩ : ∃ u, Vc (c.o + j) D = u + 1 := ⟨Vc (c.o + j) D - 1, by omega⟩
        rw [hu] at hwg
        obtain ⟨g', hgo, hl, hq⟩ := hall u 1 (by omega) (by omega) (by simpa using hwg)
        by_cases hu0 : u = 0
        · subst hu0
          obtain ⟨m₂, hk'⟩ := hl ⟨rfl, rfl⟩
          refine book hgo (aside_setCell w (stA c.Wg) _) (hwg.setSt _) bk2 df2 (.d2 hk') (by omega) rfl ?_ (.inl ⟨by omega, by simp [cnt]⟩)
          simpa using mode_last (s := 4) (m := m₂) h1 hk (by omega) (only_one hk hc1 (by omega) h2)
        · obtain ⟨q, hq⟩ := hq (by omega)
          have hd := count_down (q := q) hk hc1
          refine book hgo (aside_setCell w (stA c.Wg) _) (hwg.setSt _) bk2 df2 (.quit hq) (by omega) rfl ?_ (.inl ⟨by omega, by simp [cnt]⟩)
          have e : ((u : Nat) : Int) * KK + ((1 : Nat) : Int) = ((Vc (c.o + j) (upd D (c.o + i) ⟨1, q, 1⟩) : Nat) : Int) * KK + 1 := by
            rw [show Vc (c.o + j) (upd D (c.o + i) ⟨1, q, 1⟩) = u by omega]; simp
          rw [e]
          exact .reg h1 (open_quit h2) (by omega)
      | last L _ h2 h3 h4 =>
        by_cases e : c.o + i = L
        · subst e; omega
        · have := h4 _ hk e; omega
      | sema h2 => have := h2 _ hk; omega
      | fin _ h2 => have := h2 _ hk; omega
    · obtain ⟨g', w', es, hgo, ⟨rfl, rfl⟩, hg'⟩ := hstep w (RW.refl w)
      exact idle hgo (.d1 hg') rfl
  | d2 h =>
    rcases Goes.cases h with hstop | ⟨m', rfl, hstep⟩
    · obtain ⟨_, hx⟩ := hstop w (RW.refl w)
      obtain ⟨hW3, hoth, rfl, rfl⟩ := hmode.isLast hk (by omega)
      simp only [hst] at hwg
      obtain ⟨g', hgo, m₂, hk'⟩ := hx (by simpa using hwg)
      refine book hgo (.refl c.Wg w) hwg Go.ConcN.bk_rd (fun jx e he => one he (by omega)) (.d3 hk') (by omega) rfl ?_ (.inl ⟨by omega, by simp [cnt]⟩)
      simpa using mode_last (s := 3) (m := m₂) hW3 hk (by omega) hoth
    · obtain ⟨g', w', es, hgo, ⟨rfl, rfl⟩, hg'⟩ := hstep w (RW.refl w)
      exact idle hgo (.d2 hg') rfl
  | d3 h =>
    rcases Goes.cases h with hstop | ⟨m', rfl, hstep⟩
    · obtain ⟨_, hx⟩ := hstop w (RW.refl w)
      obtain ⟨hW3, hoth, rfl, rfl⟩ := hmode.isLast hk (by omega)
      simp only [hst] at hwg
      obtain ⟨g', hgo, m₂, hk'⟩ := hx (by simpa using hwg)
      refine book hgo (aside_setCell w (stA c.Wg) _) (hwg.setSt 0) (by intro e he; simp at he; subst he; exact Go.ConcN.bk_cell _ _ rfl) (fun jx e he => one he (by omega)) (.d4 hk') (by omega) rfl ?_ (.inl ⟨by omega, by simp [cnt]⟩)
      simpa using mode_last (s := 2) (m := m₂) hW3 hk (by omega) hoth
    · obtain ⟨g', w', es, hgo, ⟨rfl, rfl⟩, hg'⟩ := hstep w (RW.refl w)
      exact idle hgo (.d3 hg') rfl
  | d4 h =>
    rcases Goes.cases h with hstop | ⟨m', rfl, hstep⟩
    · obtain ⟨_, hmw, hx⟩ := hstop w (RW.refl w)
      obtain ⟨hW3, hoth, rfl, rfl⟩ := hmode.isLast hk (by omega)
      simp only [hst] at hwg
      obtain ⟨g', hgo, q, hq⟩ := hx (by simpa using hwg)
      have hrun' : g'.status = .running := by
        cases q with
        | zero => exact absurd hq.2 (by decide)
        | succ q =>
          rcases hq with x | x
          · exact absurd x.2 (by decide)
          · exact x.1
      refine bookG hgo (aside_setCell w (smA c.Wg) _) (hwg.setSm 1) Go.ConcN.bk_sem ?_ (.quit hq) (by omega) (by simp [deafBehind, semEvents]) ?_ (.inl ⟨by omega, by simp [cnt]⟩)
      · intro jx e he
        match jx, he with
        | 0, he => simp [semEvents] at he; subst he; exact .inl rfl
        | 1, _ => exact .inr (by simp [deafBehind, semEvents])
        | 2, _ => exact .inr (by simp [deafBehind, semEvents])
        | 3, he => simp [semEvents] at he; subst he; exact .inl rfl
        | jx + 4, he => simp [semEvents] at he
      · intro tag' ht hw
        have hnb := hw hmw hrun'
        have e3 : tag' = .w3 := by
          rcases ht with rfl | ⟨_, rfl⟩
          · cases tag' <;> first | rfl | exact hW3.elim | exact absurd rfl hnb
          · rfl
        subst e3
        simp only [if_true]
        refine .sema fun a ha => ?_
        by_cases e : a = c.o + i
        · subst e; rw [upd_same]
        · rw [upd_ne D _ e]; exact hoth a ha e
    · obtain ⟨g', w', es, hgo, ⟨rfl, rfl⟩, hg'⟩ := hstep w (RW.refl w)
      exact idle hgo (.d4 hg') rfl
  | quit h =>
    cases m with
    | zero => rw [h.1] at hrun; cases hrun
    | succ q =>
      rcases h with ⟨hf, _⟩ | ⟨_, g', es, hmute, hstep, hq⟩
      · rw [hf] at hrun; cases hrun
      · refine book (hstep w) (.refl c.Wg w) hwg (fun e he => Go.ConcR.bk_of_mute (hmute e he)) (fun jx e he => .inl (touch_mute (hmute e (Array.mem_of_getElem? he)))) (.quit hq) (by omega) rfl ?_ (.inr ⟨rfl, rfl⟩)
        have := hmode.same (i := c.o + i) q (deafBehind dd es)
        rwa [hst] at this
/-- whoever steps that is not the starter -/
theorem step_others (G : Geo c) (hn : c.o + c.n < 2147483647) (ha : gs[0]? = some a) (hcs : CX c Low tag j f0 d0 a w) (hcom : Com c w0 t0 Low j gs w t D Lw Bo RB d0) (hwg : WgAt c.ty c.Wg w st sm) (hmode : Go.ConcN.Mode (c.o + j) D tag st sm) {k : Nat} {g : Goroutine} (hg : gs[k + 1]? = some g) (hrun : g.status = .running) :
    Keeps c w0 t0 t (phi (c.o + c.n) (Vc (c.o + j) D) tag + Ssum (c.o + j) D, f0 + 2 * Fsum (c.o + j) D) (runT c.P (crowd gs w sl) (k + 1)) := by
  have hlt : k + 1 < gs.size := (Array.getElem?_eq_some_iff.1 hg).1
  rw [hcom.size] at hlt
  by_cases hko : k < c.o
  · exact step_old G ha hcs hcom hwg hmode hko hg hrun
  · obtain ⟨i, rfl⟩ : ∃ i, k = c.o + i := ⟨k - c.o, by omega⟩
    obtain ⟨g₁, hg₁, hs⟩ := hcom.wk i (by omega)
    rw [hg] at hg₁
    cases hg₁
    generalize hst : (D (c.o + i)).stage = s at hs
    generalize hfu : (D (c.o + i)).fuel = m at hs
    generalize hde : (D (c.o + i)).deaf = dd at hs
    generalize hbo : Bo i = bo at hs
    cases hs with
    | a h => exact step_early G ha hcs hcom hwg hmode (by omega) hg hst (by rw [hbo, hfu, hde]; exact .a h)
    | b h => exact step_early G ha hcs hcom hwg hmode (by omega) hg hst (by rw [hbo, hfu, hde]; exact .b h)
    | c h6 h hout => exact step_late G hn ha hcs hcom hwg hmode (by omega) hg hrun hbo hst hfu hde h6 h hout
end
end Go.Phase
