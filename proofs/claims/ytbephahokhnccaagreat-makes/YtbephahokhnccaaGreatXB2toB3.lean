/-
  Many workers at once: what holds of the machine and the trace at every moment, and how it is kept.
-/
import Derived.Test.YtbephahokhnccaaGreatXG10toB1
set_option linter.unusedSectionVars false
namespace Go.Phase
open Go.Conc Go.Lift
open Go.ConcN (WgLive PayAt Has AtR0 AtK1 WSit RW CTag CT Apart OkW Ok0 ShN RelBy WD upd upd_same upd_ne PermW)
open Go.ConcR (KK wgBlock WgAt stA smA rd wr mk Payload Bk g_of_ofEvents)
variable [Payload]
section
variable (c : Cfg)
/-- where things lie -/
structure Geo : Prop where
  hCW : c.C ≠ c.Wg
  ty : c.ty ≠ c.tb
  ety : Payload.ety ≠ c.tb
  bC : c.base ≤ c.C
  bW : c.base ≤ c.Wg
  shun : ∀ l, c.Shun l → ∃ a : Addr, l = .cell a ∧ a.block < c.base
  out : ∀ i b (w w' : World), w'.heap[b]? = w.heap[b]? → w'.cell? ⟨c.C, i, none⟩ = w.cell? ⟨c.C, i, none⟩ → c.Out i b w → c.Out i b w'
  anch : ∀ L g w, c.Anch L g w → g.status = .running
def Sh (l : Loc) : Prop := ShN c.Wg l ∨ c.Shun l
def Own (Bo : Nat → Option Nat) (k : Nat) (l : Loc) : Prop := ∃ (i : Nat) (a : Addr), k = c.o + i + 1 ∧ l = .cell a ∧ (a = ⟨c.C, i, none⟩ ∨ Bo i = some a.block)
def Rd (RB : Nat → Nat → Prop) (k : Nat) (l : Loc) : Prop := ∃ (i : Nat) (a : Addr), k = c.o + i + 1 ∧ l = .cell a ∧ RB i a.block
/-- an operation of this time -/
def PhOp (B : Nat) (op : MemOp) : Prop :=
  (op.g = 0 ∨ c.o < op.g ∨ op.act.touch? = none) ∧ (∀ x, op.act.touch? = some x → x.loc.isMemory = true ∧ (x.kind = .atomic → ShN c.Wg x.loc)) ∧ op.act.low B
structure Com (w0 : World) (t0 : Trace) (Low j : Nat) (gs : Array Goroutine) (w : World) (t : Trace) (D : Nat → WD) (Lw : Nat → Nat) (Bo : Nat → Option Nat) (RB : Nat → Nat → Prop) (d0 : Nat) : Prop where
  size : gs.size = c.o + j + 1
  old : ∀ i, i < c.o → ∃ g, gs[i + 1]? = some g ∧ (D i).stage = 1 ∧ QuitsD c.P (D i).fuel (D i).deaf g
  wk : ∀ i, i < j → ∃ g, gs[c.o + i + 1]? = some g ∧ WX c i (Lw i) (Bo i) (D (c.o + i)).stage (D (c.o + i)).fuel (D (c.o + i)).deaf g w
  low : ∀ i, i < j → Lw i ≤ Low
  lowS : Low ≤ w.heap.size
  lowW : c.Wg < Low
  lowC : c.C < Low
  lowB : c.base ≤ Low
  bs : ∀ i b, Bo i = some b → i < j ∧ c.base ≤ b ∧ IsB c w b
  inj : ∀ i i' b, Bo i = some b → Bo i' = some b → i = i'
  rb : ∀ i b, RB i b → i < j ∧ c.base ≤ b ∧ b < Lw i ∧ b ≠ c.Wg ∧ b ≠ c.C ∧ ¬ IsB c w b
  rb' : ∀ i b, i < j → c.base ≤ b → b < Lw i → b ≠ c.Wg → b ≠ c.C → ¬ IsB c w b → RB i b
  live : WgLive c.ty c.Wg w
  pay : PayAt c.C c.n w
  ct : CT (Sh c) (Own c Bo) (Rd c RB) t (c.o + j)
  norel : NoRelease (stA c.Wg) t
  deaf0 : Deaf t 0 = d0
  deafW : ∀ i, i < c.o + j → Deaf t (i + 1) = (D i).deaf
  rel : ∀ i, i < j → (D (c.o + i)).stage ≤ 6 → ∃ r, RelBy (stA c.Wg) t (c.o + i + 1) r
  frame : ∀ b, b < c.base → w.heap[b]? = w0.heap[b]?
  tr : ∃ u, t = t0 ++ u ∧ ∀ op ∈ u, PhOp c w.heap.size op
  tr0 : ∀ op ∈ t0, op.act.low w.heap.size
  tidy : Tidy c w
  os : w.os = w0.os ∧ w.output = w0.output
/-- what whoever's step does to the world -/
structure Stp (w w' : World) : Prop where
  size : w.heap.size ≤ w'.heap.size
  isb : ∀ b, IsB c w b → IsB c w' b
  frame : ∀ b, b < c.base → w'.heap[b]? = w.heap[b]?
  tidy : Tidy c w → Tidy c w'
  os : w'.os = w.os ∧ w'.output = w.output
end
section
variable {c : Cfg} {w0 w w' : World} {t0 t : Trace} {Low j : Nat} {gs : Array Goroutine} {D : Nat → WD} {Lw : Nat → Nat} {Bo Bo' : Nat → Option Nat} {RB : Nat → Nat → Prop} {d0 : Nat}
theorem notB_wg (G : Geo c) (h : WgLive c.ty c.Wg w) : ¬ IsB c w c.Wg := by
  rintro ⟨x, f, hx⟩
  obtain ⟨st, sm, hl⟩ := h
  unfold WgAt wgBlock at hl
  rw [hl] at hx
  simp only [Option.some.injEq, Obj.cells.injEq] at hx
  exact G.ty hx.2.1
theorem notB_pay (G : Geo c) (h : PayAt c.C c.n w) : ¬ IsB c w c.C := by
  rintro ⟨x, f, hx⟩
  obtain ⟨cs, hl, _⟩ := h
  rw [hl] at hx
  simp only [Option.some.injEq, Obj.cells.injEq] at hx
  exact G.ety hx.2.1
theorem apart_of (G : Geo c) (hl : WgLive c.ty c.Wg w) (hp : PayAt c.C c.n w) (bs : ∀ i b, Bo i = some b → c.base ≤ b ∧ IsB c w b) (inj : ∀ i i' b, Bo i = some b → Bo i' = some b → i = i')
    (rb : ∀ i b, RB i b → c.base ≤ b ∧ b ≠ c.Wg ∧ b ≠ c.C ∧ ¬ IsB c w b) : Apart (Sh c) (Own c Bo) (Rd c RB) := by
  refine ⟨?_, ?_, ?_, ?_⟩
  · rintro k k' l ⟨i, a, rfl, rfl, h1⟩ ⟨i', a', rfl, e, h2⟩
    cases e
    rcases h1 with rfl | h1
    · rcases h2 with e | h2
      · simp only [Addr.mk.injEq] at e; omega
      · exact absurd (bs _ _ h2).2 (notB_pay G hp)
    · rcases h2 with rfl | h2
      · exact absurd (bs _ _ h1).2 (notB_pay G hp)
      · rw [inj _ _ _ h1 h2]
  · rintro k k' l ⟨i, a, rfl, rfl, h1⟩ ⟨i', a', rfl, e, h2⟩
    cases e
    obtain ⟨r1, r2, r3, r4⟩ := rb _ _ h2
    rcases h1 with rfl | h1
    · exact r3 rfl
    · exact r4 (bs _ _ h1).2
  · rintro k l ⟨i, a, rfl, rfl, h1⟩ hs
    rcases hs with ⟨a', e, hb⟩ | hs
    · cases e
      rcases h1 with rfl | h1
      · exact G.hCW hb
      · rw [hb] at h1; exact notB_wg G hl (bs _ _ h1).2
    · obtain ⟨a', e, hb⟩ := G.shun _ hs
      cases e
      rcases h1 with rfl | h1
      · have := G.bC; simp only at hb; omega
      · have := (bs _ _ h1).1; omega
  · rintro k l ⟨i, a, rfl, rfl, h1⟩ hs
    obtain ⟨r1, r2, r3, r4⟩ := rb _ _ h1
    rcases hs with ⟨a', e, hb⟩ | hs
    · cases e; exact r2 hb
    · obtain ⟨a', e, hb⟩ := G.shun _ hs
      cases e; omega
theorem Com.apart (G : Geo c) (h : Com c w0 t0 Low j gs w t D Lw Bo RB d0) : Apart (Sh c) (Own c Bo) (Rd c RB) :=
  apart_of G h.live h.pay (fun i b hb => (h.bs i b hb).2) h.inj fun i b hb => let ⟨_, h1, _, h2, h3, h4⟩ := h.rb i b hb; ⟨h1, h2, h3, h4⟩
/-- every place that the trace names lies below the heap's end -/
theorem Com.seen (h : Com c w0 t0 Low j gs w t D Lw Bo RB d0) : ∀ op ∈ t, op.act.low w.heap.size := by
  obtain ⟨u, rfl, hu⟩ := h.tr
  intro op hop
  rcases Array.mem_append.1 hop with hop | hop
  · exact h.tr0 op hop
  · exact (hu op hop).2.2
theorem low_touch {B : Nat} {act : MemAct} {x : Touch} {a : Addr} (h : act.low B) (hx : act.touch? = some x) (ha : x.loc = .cell a) : a.block < B := by
  cases act with
  | access e =>
    simp only [MemAct.touch?, Option.some.injEq] at hx
    subst hx
    obtain ⟨l, wr, sy⟩ := e
    simp only at ha
    subst ha
    exact h
  | mark m => cases m <;> simp only [MemAct.touch?, Option.some.injEq, reduceCtorEq] at hx <;> (subst hx; cases ha; exact h)
  | _ => simp [MemAct.touch?] at hx
/-- more is owned: what nobody has touched -/
theorem CT.grow {J : Nat} (h : CT (Sh c) (Own c Bo) (Rd c RB) t J) (hseen : ∀ op ∈ t, op.act.low w.heap.size) (hB : ∀ i b, Bo i = some b → Bo' i = some b) (hN : ∀ i b, Bo' i = some b → Bo i = some b ∨ w.heap.size ≤ b) :
    CT (Sh c) (Own c Bo') (Rd c RB) t J := by
  have up : ∀ k l, Own c Bo k l → Own c Bo' k l := by
    rintro k l ⟨i, a, h1, h2, h3 | h3⟩
    · exact ⟨i, a, h1, h2, .inl h3⟩
    · exact ⟨i, a, h1, h2, .inr (hB _ _ h3)⟩
  have down : ∀ k l, Own c Bo' k l → Own c Bo k l ∨ ∀ i x, touchAt t i = some x → x.loc ≠ l := by
    rintro k l ⟨i, a, h1, rfl, h3 | h3⟩
    · exact .inl ⟨i, a, h1, rfl, .inl h3⟩
    · rcases hN _ _ h3 with h4 | h4
      · exact .inl ⟨i, a, h1, rfl, .inr h4⟩
      · refine .inr fun i x hx e => ?_
        obtain ⟨op, ho, hox⟩ := touch_of hx
        have := low_touch (hseen op (Array.mem_of_getElem? ho)) hox e
        omega
  refine ⟨h.quiet, fun k k1 kj l hl => ?_, h.rd, fun l hs hl => h.free l hs fun k k1 kj => ⟨fun x => (hl k k1 kj).1 (up k l x), (hl k k1 kj).2⟩, fun l hs hl => h.mine l hs fun k k1 kj x => hl k k1 kj (up k l x), h.nr, h.gs⟩
  rcases down k l hl with h' | h'
  · exact h.own k k1 kj l h'
  · exact fun i x hx e => absurd e (h' i x hx)
/-! ### a worker's entries -/
def EvK (c : Cfg) (Bo : Nat → Option Nat) (i Low : Nat) (w : World) (e : Event) : Prop :=
  EvR c Low w e ∨ (∃ (a : Addr) (x : Bool), e = ⟨.cell a, x, false⟩ ∧ (a = ⟨c.C, i, none⟩ ∨ Bo i = some a.block)) ∨ Bk c.Wg e ∨ e = mk (.releaseMerge (stA c.Wg))
theorem touch_neutral {e : Event} (h : Neutral e) : (MemAct.ofEvent e).touch? = none ∧ ∀ B, (MemAct.ofEvent e).low B := by
  obtain ⟨loc, wr, sy⟩ := e
  rcases h with h | ⟨f, h⟩ <;> (simp only at h; subst h; exact ⟨rfl, fun _ => trivial⟩)
theorem touch_plain (a : Addr) (x : Bool) : MemAct.ofEvent ⟨.cell a, x, false⟩ = .access ⟨.cell a, x, false⟩ := rfl
theorem touch_bk {e : Event} (h : Bk c.Wg e) : (∀ x, (MemAct.ofEvent e).touch? = some x → (∃ a : Addr, x.loc = .cell a ∧ a.block = c.Wg) ∧ x.kind = .atomic) ∧ ∀ B, c.Wg < B → (MemAct.ofEvent e).low B := by
  obtain ⟨loc, wr, sy⟩ := e
  rcases h with h | h | ⟨a, y, h, ha⟩
  · simp only at h; subst h; exact ⟨fun x hx => by simp [MemAct.ofEvent, MemAct.touch?] at hx, fun _ _ => trivial⟩
  · simp only at h; subst h; exact ⟨fun x hx => by simp [MemAct.ofEvent, MemAct.touch?] at hx, fun _ _ => trivial⟩
  · cases h
    refine ⟨fun x hx => ?_, fun B hB => ?_⟩
    · simp only [MemAct.ofEvent, MemAct.touch?, Option.some.injEq, if_true] at hx
      subst hx
      exact ⟨⟨a, rfl, ha⟩, rfl⟩
    · show a.block < B
      omega
theorem bk_norel {e : Event} (h : Bk c.Wg e) : e.loc ≠ .mark (.release (stA c.Wg)) := by
  rcases h with h | h | ⟨a, y, rfl, _⟩
  · rw [h]; simp
  · rw [h]; simp
  · simp
theorem neutral_norel {e : Event} (h : Neutral e) : e.loc ≠ .mark (.release (stA c.Wg)) ∧ e.loc ≠ .mark .disable ∧ e.loc ≠ .mark .enable := by
  rcases h with h | ⟨f, h⟩ <;> rw [h] <;> simp
theorem evk_norel {i L : Nat} {e : Event} (h : EvK c Bo i L w e) : e.loc ≠ .mark (.release (stA c.Wg)) := by
  rcases h with (⟨a, rfl, _⟩ | h) | ⟨a, x, rfl, _⟩ | h | rfl
  · simp
  · exact (neutral_norel h).1
  · simp
  · exact bk_norel h
  · simp [mk]
theorem evk_ok {i : Nat} {fn : FuncId} {pos : String} {es : Array Event} (hrb : ∀ b, c.base ≤ b → b < Lw i → b ≠ c.Wg → b ≠ c.C → ¬ IsB c w b → RB i b) (h : ∀ e ∈ es, EvK c Bo i (Lw i) w e) :
    ∀ op ∈ MemOp.ofEvents (c.o + i + 1) fn pos es, OkW (Sh c) (Own c Bo) (Rd c RB) (c.o + i + 1) op := by
  intro op hop
  obtain ⟨e, he, rfl⟩ := Go.Conc.mem_ofEvents hop
  refine ⟨rfl, fun x hx => ?_⟩
  rcases h e he with (⟨a, rfl, h1, h2, h3, h4, h5⟩ | h) | ⟨a, y, rfl, h1⟩ | h | rfl
  · simp only [touch_plain, MemAct.touch?, Option.some.injEq] at hx
    subst hx
    exact .inr (.inr ⟨⟨i, a, rfl, rfl, hrb _ h1 h2 h3 h4 h5⟩, rfl⟩)
  · simp only [(touch_neutral h).1] at hx; cases hx
  · simp only [touch_plain, MemAct.touch?, Option.some.injEq] at hx
    subst hx
    exact .inr (.inl ⟨i, a, rfl, rfl, h1⟩)
  · obtain ⟨⟨a, e1, e2⟩, hk⟩ := (touch_bk h).1 x hx
    refine .inl ⟨.inl ⟨a, e1, e2⟩, ?_, ?_⟩ <;> rw [hk] <;> simp
  · simp [MemAct.ofEvent, mk, MemAct.touch?] at hx
theorem evk_ph {i B : Nat} {fn : FuncId} {pos : String} {es : Array Event} (hL : Lw i ≤ B) (hC : c.C < B) (hW : c.Wg < B) (hb : ∀ b, Bo i = some b → b < B) (h : ∀ e ∈ es, EvK c Bo i (Lw i) w e) :
    ∀ op ∈ MemOp.ofEvents (c.o + i + 1) fn pos es, PhOp c B op := by
  intro op hop
  obtain ⟨e, he, rfl⟩ := Go.Conc.mem_ofEvents hop
  refine ⟨.inr (.inl (by show c.o < c.o + i + 1; omega)), fun x hx => ?_, ?_⟩
  · rcases h e he with (⟨a, rfl, _⟩ | h) | ⟨a, y, rfl, _⟩ | h | rfl
    · simp only [touch_plain, MemAct.touch?, Option.some.injEq] at hx
      subst hx
      exact ⟨rfl, fun e => by simp at e⟩
    · simp only [(touch_neutral h).1] at hx; cases hx
    · simp only [touch_plain, MemAct.touch?, Option.some.injEq] at hx
      subst hx
      exact ⟨rfl, fun e => by simp at e⟩
    · obtain ⟨⟨a, e1, e2⟩, hk⟩ := (touch_bk h).1 x hx
      exact ⟨by rw [e1]; rfl, fun _ => ⟨a, e1, e2⟩⟩
    · simp [MemAct.ofEvent, mk, MemAct.touch?] at hx
  · rcases h e he with (⟨a, rfl, _, h2, _⟩ | h) | ⟨a, y, rfl, h1⟩ | h | rfl
    · show a.block < B
      omega
    · exact (touch_neutral h).2 B
    · show a.block < B
      rcases h1 with rfl | h1
      · exact hC
      · exact hb _ h1
    · exact (touch_bk h).2 B hW
    · exact hW
theorem phop_mono {B B' : Nat} (h : B ≤ B') {op : MemOp} (hop : PhOp c B op) : PhOp c B' op := ⟨hop.1, hop.2.1, MemAct.low_mono h hop.2.2⟩
theorem get_ms (f : Goroutine → Goroutine) (a : Nat) (x : Goroutine) (b : Nat) (hb : a ≠ b) : ((gs.map f).setIfInBounds a x)[b]? = (gs[b]?).map f := by
  rw [Array.getElem?_setIfInBounds_ne hb, Array.getElem?_map]
theorem get_ms_same (f : Goroutine → Goroutine) (a : Nat) (x : Goroutine) (ha : a < gs.size) : ((gs.map f).setIfInBounds a x)[a]? = some x := by
  simp [ha]
theorem woken_quits {q d : Nat} {g : Goroutine} (h : QuitsD c.P q d g) (a a' : Goroutine) (u : World) : woken c.P a a' u g = g := woken_quitsD h
/-- a step of worker i's -/
theorem Com.stepW (G : Geo c) (h : Com c w0 t0 Low j gs w t D Lw Bo RB d0) {i : Nat} (hi : i < j) {g g' : Goroutine} {fn : FuncId} {pos : String} {es : Array Event} {s' m' dd' : Nat}
    (hst : Stp c w w') (hnb : ∀ b, b < w.heap.size → b ≠ c.Wg → b ≠ c.C → ¬ IsB c w b → ¬ IsB c w' b)
    (hrx : ∀ i', i' < j → i' ≠ i → RX c (Lw i') i' (fun b => Bo i' = some b) w w') (hs' : WX c i (Lw i) (Bo' i) s' m' dd' g' w')
    (hBo : ∀ i', i' ≠ i → Bo' i' = Bo i') (hB1 : ∀ b, Bo i = some b → Bo' i = some b) (hB2 : ∀ b, Bo' i = some b → (Bo i = some b ∨ w.heap.size ≤ b) ∧ c.base ≤ b ∧ IsB c w' b)
    (hev : ∀ e ∈ es, EvK c Bo' i (Lw i) w e) (hdeaf : deafBehind (D (c.o + i)).deaf es = dd')
    (hrel : s' ≤ 6 → ∃ r, RelBy (stA c.Wg) (t ++ MemOp.ofEvents (c.o + i + 1) fn pos es) (c.o + i + 1) r) (hpay : PayAt c.C c.n w') (hlive : WgLive c.ty c.Wg w') :
    Com c w0 t0 Low j ((gs.map (woken c.P g g' w')).setIfInBounds (c.o + i + 1) g') w' (t ++ MemOp.ofEvents (c.o + i + 1) fn pos es) (upd D (c.o + i) ⟨s', m', dd'⟩) Lw Bo' RB d0 := by
  have hseen := h.seen
  have hBall : ∀ i' b, Bo i' = some b → Bo' i' = some b := fun i' b hb => by
    by_cases e : i' = i
    · subst e; exact hB1 b hb
    · rw [hBo i' e]; exact hb
  have hN : ∀ i' b, Bo' i' = some b → Bo i' = some b ∨ w.heap.size ≤ b := fun i' b hb => by
    by_cases e : i' = i
    · subst e; exact (hB2 b hb).1
    · rw [hBo i' e] at hb; exact .inl hb
  have hbs : ∀ i' b, Bo' i' = some b → i' < j ∧ c.base ≤ b ∧ IsB c w' b := fun i' b hb => by
    by_cases e : i' = i
    · subst e; exact ⟨hi, (hB2 b hb).2⟩
    · rw [hBo i' e] at hb
      obtain ⟨h1, h2, h3⟩ := h.bs i' b hb
      exact ⟨h1, h2, hst.isb b h3⟩
  have hinj : ∀ i' i'' b, Bo' i' = some b → Bo' i'' = some b → i' = i'' := fun i' i'' b h1 h2 => by
    rcases hN _ _ h1 with k1 | k1 <;> rcases hN _ _ h2 with k2 | k2
    · exact h.inj _ _ _ k1 k2
    · have := (h.bs _ _ k1).2.2.lt; omega
    · have := (h.bs _ _ k2).2.2.lt; omega
    · by_cases e1 : i' = i
      · by_cases e2 : i'' = i
        · rw [e1, e2]
        · rw [hBo i'' e2] at h2; have := (h.bs _ _ h2).2.2.lt; omega
      · rw [hBo i' e1] at h1; have := (h.bs _ _ h1).2.2.lt; omega
  have hrb : ∀ i' b, RB i' b → i' < j ∧ c.base ≤ b ∧ b < Lw i' ∧ b ≠ c.Wg ∧ b ≠ c.C ∧ ¬ IsB c w' b := fun i' b hb => by
    obtain ⟨h1, h2, h3, h4, h5, h6⟩ := h.rb i' b hb
    exact ⟨h1, h2, h3, h4, h5, hnb b (by have := h.low i' h1; have := h.lowS; omega) h4 h5 h6⟩
  have hA : Apart (Sh c) (Own c Bo') (Rd c RB) := apart_of G hlive hpay (fun i b hb => (hbs i b hb).2) hinj fun i b hb => let ⟨_, h1, _, h2, h3, h4⟩ := hrb i b hb; ⟨h1, h2, h3, h4⟩
  refine ⟨by simp [h.size], fun i' hi' => ?_, fun i' hi' => ?_, h.low, Nat.le_trans h.lowS hst.size, h.lowW, h.lowC, h.lowB, hbs, hinj, hrb, fun i' b h1 h2 h3 h4 h5 h6 => h.rb' i' b h1 h2 h3 h4 h5 (fun x => h6 (hst.isb b x)), hlive, hpay,
    (CT.grow h.ct hseen hBall hN).appW hA (by omega) (by omega) (evk_ok (Lw := Lw) (fun b h1 h2 h3 h4 h5 => h.rb' i b hi h1 h2 h3 h4 h5) hev), h.norel.app (Go.ConcN.norel_of fun e he => evk_norel (hev e he)), by rw [Deaf_other t (by omega) _ g_of_ofEvents, h.deaf0], fun i' hi' => ?_, fun i' hi' hs => ?_, fun b hb => (hst.frame b hb).trans (h.frame b hb), ?_, fun op hop => MemAct.low_mono hst.size (h.tr0 op hop), hst.tidy h.tidy, ⟨hst.os.1.trans h.os.1, hst.os.2.trans h.os.2⟩⟩
  · obtain ⟨x, hx, h1, h2⟩ := h.old i' hi'
    refine ⟨x, ?_, ?_, ?_⟩
    · rw [get_ms _ _ _ _ (by omega), hx, Option.map_some, woken_quits h2]
    · rw [upd_ne D _ (by omega)]; exact h1
    · rw [upd_ne D _ (by omega)]; exact h2
  · by_cases e : i' = i
    · subst e
      exact ⟨g', get_ms_same _ _ _ (by rw [h.size]; omega), by rw [upd_same]; exact hs'⟩
    · obtain ⟨x, hx, hsx⟩ := h.wk i' hi'
      refine ⟨x, ?_, ?_⟩
      · rw [get_ms _ _ _ _ (by omega), hx, Option.map_some, hsx.woken]
      · rw [upd_ne D _ (by omega), hBo i' e]
        exact hsx.rely G.out (hrx i' hi' e)
  · by_cases e : i' = c.o + i
    · subst e; rw [Deaf_own, h.deafW _ hi', upd_same]; exact hdeaf
    · rw [Deaf_other t (by omega) _ g_of_ofEvents, h.deafW i' hi', upd_ne D _ e]
  · by_cases e : i' = i
    · subst e; rw [upd_same] at hs; exact hrel hs
    · rw [upd_ne D _ (by omega)] at hs
      obtain ⟨r, hr⟩ := h.rel i' hi' hs
      exact ⟨r, hr.appOther g_of_ofEvents (by omega)⟩
  · obtain ⟨u, rfl, hu⟩ := h.tr
    refine ⟨u ++ MemOp.ofEvents (c.o + i + 1) fn pos es, by rw [Array.append_assoc], fun op hop => ?_⟩
    rcases Array.mem_append.1 hop with hop | hop
    · exact phop_mono hst.size (hu op hop)
    · have h1 := h.low i hi
      have h2 := h.lowS
      have h3 := hst.size
      have h4 := h.lowC
      have h5 := h.lowW
      exact evk_ph (Lw := Lw) (B := w'.heap.size) (by omega) (by omega) (by omega) (fun b hb => (hbs i b hb).2.2.lt) hev op hop
end
end Go.Phase
/-
  Many workers at once: the starter's steps, an old leaver's, the go statement; the invariant.
-/
set_option linter.unusedSectionVars false
namespace Go.Phase
open Go.Conc Go.Lift
open Go.ConcN (WgLive PayAt Has AtR0 AtK1 WSit RW CTag CT Apart OkW Ok0 ShN RelBy WD upd upd_same upd_ne PermW Mode Vc Ssum Fsum phi pend cnt sumTo sumTo_upd sumTo_upd_out)
open Go.ConcR (KK wgBlock WgAt stA smA rd wr mk Payload Bk g_of_ofEvents)
variable [Payload]
section
variable {c : Cfg} {w0 w w' : World} {t0 t : Trace} {Low j : Nat} {gs : Array Goroutine} {D : Nat → WD} {Lw : Nat → Nat} {Bo : Nat → Option Nat} {RB : Nat → Nat → Prop} {d0 : Nat}
theorem ev0_ok (h : Com c w0 t0 Low j gs w t D Lw Bo RB d0) {fn : FuncId} {pos : String} {es : Array Event} (hes : ∀ e ∈ es, Ev0 c Low w e ∨ Bk c.Wg e ∨ e = mk (.acquire (stA c.Wg))) :
    (∀ op ∈ MemOp.ofEvents 0 fn pos es, Ok0 (Sh c) (Own c Bo) (Rd c RB) (c.o + j) op) ∧ ∀ B, w.heap.size ≤ B → ∀ op ∈ MemOp.ofEvents 0 fn pos es, PhOp c B op := by
  have hW : c.Wg < w.heap.size := Nat.lt_of_lt_of_le h.lowW h.lowS
  refine ⟨fun op hop => ?_, fun B hB op hop => ?_⟩
  · obtain ⟨e, he, rfl⟩ := Go.Conc.mem_ofEvents hop
    refine ⟨rfl, fun x hx => ?_⟩
    rcases hes e he with (⟨a, y, rfl, h1, h2, h3, h4, h5, h6⟩ | ⟨a, rfl | rfl, h1⟩ | hn) | hb | rfl
    · simp only [touch_plain, MemAct.touch?, Option.some.injEq] at hx
      subst hx
      refine .inr ⟨?_, fun k _ _ => ?_, fun hy k _ _ => ?_⟩
      · rintro (⟨a', e, hb⟩ | hs)
        · cases e; exact h1 hb
        · exact h4 hs
      · rintro ⟨i, a', _, e, h7⟩
        cases e
        rcases h7 with rfl | h7
        · exact h2 rfl
        · exact h3 (h.bs _ _ h7).2.2
      · rintro ⟨i, a', _, e, h7⟩
        cases e
        obtain ⟨r1, _, r3, _⟩ := h.rb _ _ h7
        have := h5 hy
        have := h.low i r1
        omega
    · simp only [MemAct.ofEvent, MemAct.touch?, Option.some.injEq] at hx
      subst hx
      exact .inl ⟨.inl ⟨a, rfl, h1⟩, by simp⟩
    · simp only [MemAct.ofEvent, MemAct.touch?, Option.some.injEq] at hx
      subst hx
      exact .inl ⟨.inl ⟨a, rfl, h1⟩, by simp⟩
    · simp only [(touch_neutral hn).1] at hx; cases hx
    · obtain ⟨⟨a, e1, e2⟩, hk⟩ := (touch_bk hb).1 x hx
      exact .inl ⟨.inl ⟨a, e1, e2⟩, by rw [hk]; simp⟩
    · simp [MemAct.ofEvent, mk, MemAct.touch?] at hx
  · obtain ⟨e, he, rfl⟩ := Go.Conc.mem_ofEvents hop
    refine ⟨.inl rfl, fun x hx => ?_, ?_⟩
    · rcases hes e he with (⟨a, y, rfl, h1, h2, h3, h4, h5, h6⟩ | ⟨a, rfl | rfl, h1⟩ | hn) | hb | rfl
      · simp only [touch_plain, MemAct.touch?, Option.some.injEq] at hx
        subst hx
        exact ⟨rfl, fun e => by simp at e⟩
      · simp only [MemAct.ofEvent, MemAct.touch?, Option.some.injEq] at hx
        subst hx
        exact ⟨rfl, fun e => by simp at e⟩
      · simp only [MemAct.ofEvent, MemAct.touch?, Option.some.injEq] at hx
        subst hx
        exact ⟨rfl, fun e => by simp at e⟩
      · simp only [(touch_neutral hn).1] at hx; cases hx
      · obtain ⟨⟨a, e1, e2⟩, hk⟩ := (touch_bk hb).1 x hx
        exact ⟨by rw [e1]; rfl, fun _ => ⟨a, e1, e2⟩⟩
      · simp [MemAct.ofEvent, mk, MemAct.touch?] at hx
    · rcases hes e he with (⟨a, y, rfl, h1, h2, h3, h4, h5, h6⟩ | ⟨a, rfl | rfl, h1⟩ | hn) | hb | rfl
      · show a.block < B
        omega
      · show a.block < B
        omega
      · show a.block < B
        omega
      · exact (touch_neutral hn).2 B
      · exact (touch_bk hb).2 B (by omega)
      · show c.Wg < B
        omega
theorem ev0_norel {e : Event} (h : Ev0 c Low w e) : e.loc ≠ .mark (.release (stA c.Wg)) ∧ e.loc ≠ .mark .disable ∧ e.loc ≠ .mark .enable := by
  rcases h with ⟨a, y, rfl, _⟩ | ⟨a, rfl | rfl, _⟩ | hn
  · simp
  · simp
  · simp
  · exact neutral_norel hn
/-- a step of the starter's -/
theorem Com.step0 (G : Geo c) (h : Com c w0 t0 Low j gs w t D Lw Bo RB d0) {a a' : Goroutine} {fn : FuncId} {pos : String} {es : Array Event}
    (hst : Stp c w w') (hnb : ∀ b, b < Low → b ≠ c.Wg → b ≠ c.C → ¬ IsB c w b → ¬ IsB c w' b) (hrx : ∀ i, i < j → RX c (Lw i) i (fun b => Bo i = some b) w w')
    (hes : ∀ e ∈ es, Ev0 c Low w e ∨ Bk c.Wg e ∨ e = Go.ConcR.mk (.acquire (stA c.Wg))) (hpay : PayAt c.C c.n w') (hlive : WgLive c.ty c.Wg w') :
    Com c w0 t0 Low j ((gs.map (woken c.P a a' w')).setIfInBounds 0 a') w' (t ++ MemOp.ofEvents 0 fn pos es) D Lw Bo RB (deafBehind d0 es) := by
  obtain ⟨hok, hph⟩ := ev0_ok h (fn := fn) (pos := pos) hes
  refine ⟨by simp [h.size], fun i hi => ?_, fun i hi => ?_, h.low, Nat.le_trans h.lowS hst.size, h.lowW, h.lowC, h.lowB, fun i b hb => ⟨(h.bs i b hb).1, (h.bs i b hb).2.1, hst.isb b (h.bs i b hb).2.2⟩, h.inj, fun i b hb => ?_,
    fun i b h1 h2 h3 h4 h5 h6 => h.rb' i b h1 h2 h3 h4 h5 (fun x => h6 (hst.isb b x)), hlive, hpay, h.ct.app0 (h.apart G) hok, h.norel.app (Go.ConcN.norel_of fun e he => ?_), by rw [Deaf_own, h.deaf0], fun i hi => by rw [Deaf_other t (by omega) _ g_of_ofEvents, h.deafW i hi], fun i hi hs => ?_, fun b hb => (hst.frame b hb).trans (h.frame b hb), ?_, fun op hop => MemAct.low_mono hst.size (h.tr0 op hop), hst.tidy h.tidy, ⟨hst.os.1.trans h.os.1, hst.os.2.trans h.os.2⟩⟩
  · obtain ⟨x, hx, h1, h2⟩ := h.old i hi
    exact ⟨x, by rw [get_ms _ _ _ _ (by omega), hx, Option.map_some, woken_quits h2], h1, h2⟩
  · obtain ⟨x, hx, hsx⟩ := h.wk i hi
    exact ⟨x, by rw [get_ms _ _ _ _ (by omega), hx, Option.map_some, hsx.woken], hsx.rely G.out (hrx i hi)⟩
  · obtain ⟨h1, h2, h3, h4, h5, h6⟩ := h.rb i b hb
    exact ⟨h1, h2, h3, h4, h5, hnb b (by have := h.low i h1; omega) h4 h5 h6⟩
  · rcases hes e he with h1 | h1 | rfl
    · exact (ev0_norel h1).1
    · exact bk_norel h1
    · simp [Go.ConcR.mk]
  · obtain ⟨r, hr⟩ := h.rel i hi hs
    exact ⟨r, hr.appOther g_of_ofEvents (by omega)⟩
  · obtain ⟨u, rfl, hu⟩ := h.tr
    refine ⟨u ++ MemOp.ofEvents 0 fn pos es, by rw [Array.append_assoc], fun op hop => ?_⟩
    rcases Array.mem_append.1 hop with hop | hop
    · exact phop_mono hst.size (hu op hop)
    · exact hph _ hst.size op hop
theorem Com.at (G : Geo c) (h : Com c w0 t0 Low j gs w t D Lw Bo RB d0) (d : Nat) : Com c w0 t0 Low j gs (w.at d) t D Lw Bo RB d0 :=
  ⟨h.size, h.old, fun i hi => let ⟨g, hg, hs⟩ := h.wk i hi; ⟨g, hg, hs.rely G.out (RX.at w d)⟩, h.low, h.lowS, h.lowW, h.lowC, h.lowB, h.bs, h.inj, h.rb, h.rb', h.live, h.pay, h.ct, h.norel, h.deaf0, h.deafW, h.rel, h.frame, h.tr, h.tr0, h.tidy, h.os⟩
/-- an old leaver's step -/
theorem Com.stepO (G : Geo c) (h : Com c w0 t0 Low j gs w t D Lw Bo RB d0) {i : Nat} (hi : i < c.o) {g g' : Goroutine} {fn : FuncId} {pos : String} {es : Array Event} {q : Nat}
    (hm : ∀ e ∈ es, e.mute = true) (hq : QuitsD c.P q (deafBehind (D i).deaf es) g') :
    Com c w0 t0 Low j ((gs.map (woken c.P g g' w)).setIfInBounds (i + 1) g') w (t ++ MemOp.ofEvents (i + 1) fn pos es) (upd D i ⟨1, q, deafBehind (D i).deaf es⟩) Lw Bo RB d0 := by
  have key : ∀ op ∈ MemOp.ofEvents (i + 1) fn pos es, op.g = i + 1 ∧ op.act.touch? = none ∧ (∀ B, op.act.low B) ∧ op.act ≠ .mark (.release (stA c.Wg)) := fun op hop => by
    obtain ⟨e, he, rfl⟩ := Go.Conc.mem_ofEvents hop
    refine ⟨rfl, touch_mute (hm e he), low_mute (hm e he), ?_⟩
    have hb := Go.ConcR.bk_of_mute (Wg := c.Wg) (hm e he)
    intro e'
    exact bk_norel (c := c) hb (Go.ConcR.loc_of_ofEvent e')
  refine ⟨by simp [h.size], fun i' hi' => ?_, fun i' hi' => ?_, h.low, h.lowS, h.lowW, h.lowC, h.lowB, h.bs, h.inj, h.rb, h.rb', h.live, h.pay,
    h.ct.appW (h.apart G) (by omega) (by omega) (fun op hop => ⟨(key op hop).1, fun x hx => by rw [(key op hop).2.1] at hx; cases hx⟩), h.norel.app (fun op hop => (key op hop).2.2.2), by rw [Deaf_other t (by omega) _ g_of_ofEvents, h.deaf0], fun i' hi' => ?_, fun i' hi' hs => ?_, h.frame, ?_, h.tr0, h.tidy, h.os⟩
  · by_cases e : i' = i
    · subst e
      refine ⟨g', get_ms_same _ _ _ (by rw [h.size]; omega), ?_, ?_⟩
      · rw [upd_same]
      · rw [upd_same]; exact hq
    · obtain ⟨x, hx, h1, h2⟩ := h.old i' hi'
      refine ⟨x, ?_, ?_, ?_⟩
      · rw [get_ms _ _ _ _ (by omega), hx, Option.map_some, woken_quits h2]
      · rw [upd_ne D _ e]; exact h1
      · rw [upd_ne D _ e]; exact h2
  · obtain ⟨x, hx, hsx⟩ := h.wk i' hi'
    refine ⟨x, ?_, ?_⟩
    · rw [get_ms _ _ _ _ (by omega), hx, Option.map_some, hsx.woken]
    · rw [upd_ne D _ (by omega)]; exact hsx
  · by_cases e : i' = i
    · subst e; rw [Deaf_own, h.deafW _ hi', upd_same]
    · rw [Deaf_other t (by omega) _ g_of_ofEvents, h.deafW i' hi', upd_ne D _ e]
  · rw [upd_ne D _ (by omega)] at hs
    obtain ⟨r, hr⟩ := h.rel i' hi' hs
    exact ⟨r, hr.appOther g_of_ofEvents (by omega)⟩
  · obtain ⟨u, rfl, hu⟩ := h.tr
    refine ⟨u ++ MemOp.ofEvents (i + 1) fn pos es, by rw [Array.append_assoc], fun op hop => ?_⟩
    rcases Array.mem_append.1 hop with hop | hop
    · exact hu op hop
    · obtain ⟨k1, k2, k3, _⟩ := key op hop
      exact ⟨.inr (.inr k2), (fun x hx => by rw [k2] at hx; cases hx), k3 _⟩
theorem CT.congr {Sh : Loc → Prop} {Own Rd Rd' : Nat → Loc → Prop} {J : Nat} (h : CT Sh Own Rd t J) (e : ∀ k, k ≤ J → ∀ l, Rd k l ↔ Rd' k l) : CT Sh Own Rd' t J :=
  ⟨h.quiet, h.own, fun k k1 kj l hl => h.rd k k1 kj l ((e k kj l).2 hl), fun l hs hl => h.free l hs fun k k1 kj => ⟨(hl k k1 kj).1, fun x => (hl k k1 kj).2 ((e k kj l).1 x)⟩, h.mine, h.nr, h.gs⟩
/-- the go statement -/
theorem Com.spawn (G : Geo c) (h : Com c w0 t0 Low j gs w t D Lw Bo RB 0) {a' child : Goroutine} {x y : MemOp} {m mB : Nat} (hx : x.g = 0 ∧ x.act = .go (c.o + j + 1)) (hy : y.g = c.o + j + 1 ∧ y.act = .start)
    (hc : Goes c.P false (RX c w.heap.size j (fun _ => False)) (DA c w.heap.size) (AtMake c w.heap.size j mB) m child w) :
    Com c w0 t0 w.heap.size (j + 1) ((gs.setIfInBounds 0 a').push child) w (t ++ #[x, y]) (upd D (c.o + j) ⟨7, m + mB + 1, 0⟩) (upd Lw j w.heap.size) Bo
      (upd RB j fun b => c.base ≤ b ∧ b < w.heap.size ∧ b ≠ c.Wg ∧ b ≠ c.C ∧ ¬ IsB c w b) 0 := by
  have hm : ∀ op ∈ #[x, y], op = x ∨ op = y := by intro op hop; simpa using hop
  have hst : ∀ op ∈ #[x, y], op.act ≠ .mark .disable ∧ op.act ≠ .mark .enable := by
    intro op hop
    rcases hm op hop with rfl | rfl
    · rw [hx.2]; exact ⟨by simp, by simp⟩
    · rw [hy.2]; exact ⟨by simp, by simp⟩
  have hnone : Bo j = none := by
    cases hb : Bo j with
    | none => rfl
    | some b => have := (h.bs j b hb).1; omega
  have hrb : ∀ i b, upd RB j (fun b => c.base ≤ b ∧ b < w.heap.size ∧ b ≠ c.Wg ∧ b ≠ c.C ∧ ¬ IsB c w b) i b → i < j + 1 ∧ c.base ≤ b ∧ b < upd Lw j w.heap.size i ∧ b ≠ c.Wg ∧ b ≠ c.C ∧ ¬ IsB c w b := by
    intro i b hb
    by_cases e : i = j
    · subst e
      rw [upd_same] at hb ⊢
      exact ⟨by omega, hb⟩
    · rw [upd_ne _ _ e] at hb
      rw [upd_ne _ _ e]
      obtain ⟨h1, h2⟩ := h.rb i b hb
      exact ⟨by omega, h2⟩
  have hA : Apart (Sh c) (Own c Bo) (Rd c (upd RB j fun b => c.base ≤ b ∧ b < w.heap.size ∧ b ≠ c.Wg ∧ b ≠ c.C ∧ ¬ IsB c w b)) :=
    apart_of G h.live h.pay (fun i b hb => (h.bs i b hb).2) h.inj fun i b hb => let ⟨_, h1, _, h2, h3, h4⟩ := hrb i b hb; ⟨h1, h2, h3, h4⟩
  have hct := CT.congr h.ct (Rd' := Rd c (upd RB j fun b => c.base ≤ b ∧ b < w.heap.size ∧ b ≠ c.Wg ∧ b ≠ c.C ∧ ¬ IsB c w b)) (fun k hk l => by
    constructor
    · rintro ⟨i, a, h1, h2, h3⟩
      exact ⟨i, a, h1, h2, by rw [upd_ne _ _ (by omega)]; exact h3⟩
    · rintro ⟨i, a, h1, h2, h3⟩
      rw [upd_ne _ _ (by omega)] at h3
      exact ⟨i, a, h1, h2, h3⟩)
  refine ⟨by simp [h.size]; omega, fun i hi => ?_, fun i hi => ?_, fun i hi => ?_, Nat.le_refl _, Nat.lt_of_lt_of_le h.lowW h.lowS, Nat.lt_of_lt_of_le h.lowC h.lowS, Nat.le_trans h.lowB h.lowS, fun i b hb => ⟨by have := (h.bs i b hb).1; omega, (h.bs i b hb).2⟩, h.inj, hrb, fun i b h1 h2 h3 h4 h5 h6 => ?_, h.live, h.pay,
    by have := hct.fork hA hx hy h.deaf0; rwa [Nat.add_assoc] at this, h.norel.app fun op hop => ?_, by rw [Go.ConcN.Deaf_still t 0 _ hst, h.deaf0], fun i hi => ?_, fun i hi hs => ?_, h.frame, ?_, h.tr0, h.tidy, h.os⟩
  · obtain ⟨g, hg, h1, h2⟩ := h.old i hi
    refine ⟨g, ?_, ?_, ?_⟩
    · rw [Array.getElem?_push_lt (by simp [h.size]; omega), ← Array.getElem?_eq_getElem, Array.getElem?_setIfInBounds_ne (by omega)]
      exact hg
    · rw [upd_ne D _ (by omega)]; exact h1
    · rw [upd_ne D _ (by omega)]; exact h2
  · by_cases e : i = j
    · subst e
      refine ⟨child, ?_, ?_⟩
      · rw [show c.o + i + 1 = (gs.setIfInBounds 0 a').size by simp [h.size], Array.getElem?_push_size]
      · rw [upd_same, upd_same, hnone]; exact .a hc
    · obtain ⟨g, hg, hsg⟩ := h.wk i (by omega)
      refine ⟨g, ?_, ?_⟩
      · rw [Array.getElem?_push_lt (by simp [h.size]; omega), ← Array.getElem?_eq_getElem, Array.getElem?_setIfInBounds_ne (by omega)]
        exact hg
      · rw [upd_ne D _ (by omega), upd_ne Lw _ e]; exact hsg
  · by_cases e : i = j
    · subst e; rw [upd_same]; exact Nat.le_refl _
    · rw [upd_ne Lw _ e]; exact Nat.le_trans (h.low i (by omega)) h.lowS
  · by_cases e : i = j
    · subst e
      rw [upd_same] at h3 ⊢
      exact ⟨h2, h3, h4, h5, h6⟩
    · rw [upd_ne _ _ e] at h3 ⊢
      exact h.rb' i b (by omega) h2 h3 h4 h5 h6
  · rcases hm op hop with rfl | rfl
    · rw [hx.2]; simp
    · rw [hy.2]; simp
  · rw [Go.ConcN.Deaf_still t _ _ hst]
    by_cases e : i = c.o + j
    · subst e
      rw [upd_same]
      exact Go.ConcN.Deaf_absent fun a op ha e => by have := h.ct.gs a op ha; omega
    · rw [upd_ne D _ e]; exact h.deafW i (by omega)
  · by_cases e : i = j
    · subst e; rw [upd_same] at hs; simp at hs
    · rw [upd_ne D _ (by omega)] at hs
      obtain ⟨r, hr⟩ := h.rel i (by omega) hs
      refine ⟨r, hr.appNot fun op hop => ?_⟩
      rcases hm op hop with rfl | rfl
      · rw [hx.1]; omega
      · rw [hy.1]; omega
  · obtain ⟨u, rfl, hu⟩ := h.tr
    refine ⟨u ++ #[x, y], by rw [Array.append_assoc], fun op hop => ?_⟩
    rcases Array.mem_append.1 hop with hop | hop
    · exact hu op hop
    · rcases hm op hop with rfl | rfl
      · exact ⟨.inl hx.1, (fun z hz => by rw [hx.2] at hz; cases hz), by rw [hx.2]; trivial⟩
      · exact ⟨.inr (.inl (by rw [hy.1]; omega)), (fun z hz => by rw [hy.2] at hz; cases hz), by rw [hy.2]; trivial⟩
end
end Go.Phase
