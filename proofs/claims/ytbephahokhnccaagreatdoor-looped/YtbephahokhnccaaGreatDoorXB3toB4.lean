import Derived.Test.YtbephahokhnccaaGreatDoorXB1toB2
set_option linter.unusedSectionVars false
namespace Go.Phase
open Go.Conc Go.Lift
open Go.ConcN (WgLive PayAt Has AtR0 AtK1 WSit RW CTag CT Apart OkW Ok0 ShN RelBy WD upd upd_same upd_ne PermW Mode Vc Ssum Fsum phi pend cnt sumTo sumTo_upd sumTo_upd_out)
open Go.ConcR (KK wgBlock WgAt stA smA rd wr mk Payload Bk g_of_ofEvents)
variable [Payload]
section
variable {c : Cfg} {w0 w w' : World} {t0 t : Trace} {Low j : Nat} {gs : Array Goroutine} {D : Nat -> WD} {Lw : Nat -> Nat} {Bo : Nat -> Option Nat} {RB : Nat -> Nat -> Prop} {d0 : Nat}
theorem ev0_ok (h : Com c w0 t0 Low j gs w t D Lw Bo RB d0) {fn : FuncId} {pos : String} {es : Array Event} (hes : ∀ e ∈ es, Ev0 c Low w e \/ Bk c.Wg e \/ e = mk (.acquire (stA c.Wg))) :
  (∀ op ∈ MemOp.ofEvents 0 fn pos es, Ok0 (Sh c) (Own c Bo) (Rd c RB) (c.o + j) op) /\ ∀ B, w.heap.size <= B -> ∀ op ∈ MemOp.ofEvents 0 fn pos es, PhOp c B op := by
 have hW : c.Wg < w.heap.size := Nat.lt_of_lt_of_le h.lowW h.lowS
 refine ⟨fun op hop => ?_, fun B hB op hop => ?_⟩
 ·obtain ⟨e, he, rfl⟩ := Go.Conc.mem_ofEvents hop
  refine ⟨rfl, fun x hx => ?_⟩
  rcases hes e he with (⟨a, y, rfl, h1, h2, h3, h4, h5, h6⟩ | ⟨a, rfl | rfl, h1⟩ | hn) | hb | rfl
  ·simp only [touch_plain, MemAct.touch?, Option.some.injEq] at hx
   subst hx
   refine .inr ⟨?_, fun k _ _ => ?_, fun hy k _ _ => ?_⟩
   ·rintro (⟨a', e, hb⟩ | hs)
    ·cases e; exact h1 hb
    ·exact h4 hs
   ·rintro ⟨i, a', _, e, h7⟩
    cases e
    rcases h7 with rfl | h7
    ·exact h2 rfl
    ·exact h3 (h.bs _ _ h7).2.2
   ·rintro ⟨i, a', _, e, h7⟩
    cases e
    obtain ⟨r1, _, r3, _⟩ := h.rb _ _ h7
    have := h5 hy
    have := h.low i r1
    omega
  ·simp only [MemAct.ofEvent, MemAct.touch?, Option.some.injEq] at hx
   subst hx
   exact .inl ⟨.inl ⟨a, rfl, h1⟩, by simp⟩
  ·simp only [MemAct.ofEvent, MemAct.touch?, Option.some.injEq] at hx
   subst hx
   exact .inl ⟨.inl ⟨a, rfl, h1⟩, by simp⟩
  ·simp only [(touch_neutral hn).1] at hx; cases hx
  ·obtain ⟨⟨a, e1, e2⟩, hk⟩ := (touch_bk hb).1 x hx
   exact .inl ⟨.inl ⟨a, e1, e2⟩, by rw [hk]; simp⟩
  ·simp [MemAct.ofEvent, mk, MemAct.touch?] at hx
 ·obtain ⟨e, he, rfl⟩ := Go.Conc.mem_ofEvents hop
  refine ⟨.inl rfl, fun x hx => ?_, ?_⟩
  ·rcases hes e he with (⟨a, y, rfl, h1, h2, h3, h4, h5, h6⟩ | ⟨a, rfl | rfl, h1⟩ | hn) | hb | rfl
   ·simp only [touch_plain, MemAct.touch?, Option.some.injEq] at hx
    subst hx
    exact ⟨rfl, fun e => by simp at e⟩
   ·simp only [MemAct.ofEvent, MemAct.touch?, Option.some.injEq] at hx
    subst hx
    exact ⟨rfl, fun e => by simp at e⟩
   ·simp only [MemAct.ofEvent, MemAct.touch?, Option.some.injEq] at hx
    subst hx
    exact ⟨rfl, fun e => by simp at e⟩
   ·simp only [(touch_neutral hn).1] at hx; cases hx
   ·obtain ⟨⟨a, e1, e2⟩, hk⟩ := (touch_bk hb).1 x hx
    exact ⟨by rw [e1]; rfl, fun _ => ⟨a, e1, e2⟩⟩
   ·simp [MemAct.ofEvent, mk, MemAct.touch?] at hx
  ·rcases hes e he with (⟨a, y, rfl, h1, h2, h3, h4, h5, h6⟩ | ⟨a, rfl | rfl, h1⟩ | hn) | hb | rfl
   ·show a.block < B
    omega
   ·show a.block < B
    omega
   ·show a.block < B
    omega
   ·exact (touch_neutral hn).2 B
   ·exact (touch_bk hb).2 B (by omega)
   ·show c.Wg < B
    omega
theorem ev0_norel {e : Event} (h : Ev0 c Low w e) : e.loc ≠ .mark (.release (stA c.Wg)) /\ e.loc ≠ .mark .disable /\ e.loc ≠ .mark .enable := by
 rcases h with ⟨a, y, rfl, _⟩ | ⟨a, rfl | rfl, _⟩ | hn
 ·simp
 ·simp
 ·simp
 ·exact neutral_norel hn
theorem Com.step0 (G : Geo c) (h : Com c w0 t0 Low j gs w t D Lw Bo RB d0) {a a' : Goroutine} {fn : FuncId} {pos : String} {es : Array Event}
  (hst : Stp c w w') (hnb : ∀ b, b < Low -> b ≠ c.Wg -> b ≠ c.C -> ¬ IsB c w b -> ¬ IsB c w' b) (hrx : ∀ i, i < j -> RX c (Lw i) i (fun b => Bo i = some b) w w')
  (hes : ∀ e ∈ es, Ev0 c Low w e \/ Bk c.Wg e \/ e = Go.ConcR.mk (.acquire (stA c.Wg))) (hpay : PayAt c.C c.n w') (hlive : WgLive c.ty c.Wg w') :
  Com c w0 t0 Low j ((gs.map (woken c.P a a' w')).setIfInBounds 0 a') w' (t ++ MemOp.ofEvents 0 fn pos es) D Lw Bo RB (deafBehind d0 es) := by
 obtain ⟨hok, hph⟩ := ev0_ok h (fn := fn) (pos := pos) hes
 refine ⟨by simp [h.size], fun i hi => ?_, fun i hi => ?_, h.low, Nat.le_trans h.lowS hst.size, h.lowW, h.lowC, h.lowB, fun i b hb => ⟨(h.bs i b hb).1, (h.bs i b hb).2.1, hst.isb b (h.bs i b hb).2.2⟩, h.inj, fun i b hb => ?_,
  fun i b h1 h2 h3 h4 h5 h6 => h.rb' i b h1 h2 h3 h4 h5 (fun x => h6 (hst.isb b x)), hlive, hpay, h.ct.app0 (h.apart G) hok, h.norel.app (Go.ConcN.norel_of fun e he => ?_), by rw [Deaf_own, h.deaf0], fun i hi => by rw [Deaf_other t (by omega) _ g_of_ofEvents, h.deafW i hi], fun i hi hs => ?_, fun b hb => (hst.frame b hb).trans (h.frame b hb), ?_, fun op hop => MemAct.low_mono hst.size (h.tr0 op hop), hst.tidy h.tidy, ⟨hst.os.1.trans h.os.1, hst.os.2.trans h.os.2⟩⟩
 ·obtain ⟨x, hx, h1, h2⟩ := h.old i hi
  exact ⟨x, by rw [get_ms _ _ _ _ (by omega), hx, Option.map_some, woken_quits h2], h1, h2⟩
 ·obtain ⟨x, hx, hsx⟩ := h.wk i hi
  exact ⟨x, by rw [get_ms _ _ _ _ (by omega), hx, Option.map_some, hsx.woken], hsx.rely G.out (hrx i hi)⟩
 ·obtain ⟨h1, h2, h3, h4, h5, h6⟩ := h.rb i b hb
  exact ⟨h1, h2, h3, h4, h5, hnb b (by have := h.low i h1; omega) h4 h5 h6⟩
 ·rcases hes e he with h1 | h1 | rfl
  ·exact (ev0_norel h1).1
  ·exact bk_norel h1
  ·simp [Go.ConcR.mk]
 ·obtain ⟨r, hr⟩ := h.rel i hi hs
  exact ⟨r, hr.appOther g_of_ofEvents (by omega)⟩
 ·obtain ⟨u, rfl, hu⟩ := h.tr
  refine ⟨u ++ MemOp.ofEvents 0 fn pos es, by rw [Array.append_assoc], fun op hop => ?_⟩
  rcases Array.mem_append.1 hop with hop | hop
  ·exact phop_mono hst.size (hu op hop)
  ·exact hph _ hst.size op hop
theorem Com.at (G : Geo c) (h : Com c w0 t0 Low j gs w t D Lw Bo RB d0) (d : Nat) : Com c w0 t0 Low j gs (w.at d) t D Lw Bo RB d0 :=
 ⟨h.size, h.old, fun i hi => let ⟨g, hg, hs⟩ := h.wk i hi; ⟨g, hg, hs.rely G.out (RX.at w d)⟩, h.low, h.lowS, h.lowW, h.lowC, h.lowB, h.bs, h.inj, h.rb, h.rb', h.live, h.pay, h.ct, h.norel, h.deaf0, h.deafW, h.rel, h.frame, h.tr, h.tr0, h.tidy, h.os⟩
theorem Com.stepO (G : Geo c) (h : Com c w0 t0 Low j gs w t D Lw Bo RB d0) {i : Nat} (hi : i < c.o) {g g' : Goroutine} {fn : FuncId} {pos : String} {es : Array Event} {q : Nat}
  (hm : ∀ e ∈ es, e.mute = true) (hq : QuitsD c.P q (deafBehind (D i).deaf es) g') :
  Com c w0 t0 Low j ((gs.map (woken c.P g g' w)).setIfInBounds (i + 1) g') w (t ++ MemOp.ofEvents (i + 1) fn pos es) (upd D i ⟨1, q, deafBehind (D i).deaf es⟩) Lw Bo RB d0 := by
 have key : ∀ op ∈ MemOp.ofEvents (i + 1) fn pos es, op.g = i + 1 /\ op.act.touch? = none /\ (∀ B, op.act.low B) /\ op.act ≠ .mark (.release (stA c.Wg)) := fun op hop => by
  obtain ⟨e, he, rfl⟩ := Go.Conc.mem_ofEvents hop
  refine ⟨rfl, touch_mute (hm e he), low_mute (hm e he), ?_⟩
  have hb := Go.ConcR.bk_of_mute (Wg := c.Wg) (hm e he)
  intro e'
  exact bk_norel (c := c) hb (Go.ConcR.loc_of_ofEvent e')
 refine ⟨by simp [h.size], fun i' hi' => ?_, fun i' hi' => ?_, h.low, h.lowS, h.lowW, h.lowC, h.lowB, h.bs, h.inj, h.rb, h.rb', h.live, h.pay,
  h.ct.appW (h.apart G) (by omega) (by omega) (fun op hop => ⟨(key op hop).1, fun x hx => by rw [(key op hop).2.1] at hx; cases hx⟩), h.norel.app (fun op hop => (key op hop).2.2.2), by rw [Deaf_other t (by omega) _ g_of_ofEvents, h.deaf0], fun i' hi' => ?_, fun i' hi' hs => ?_, h.frame, ?_, h.tr0, h.tidy, h.os⟩
 ·by_cases e : i' = i
  ·subst e
   refine ⟨g', get_ms_same _ _ _ (by rw [h.size]; omega), ?_, ?_⟩
   ·rw [upd_same]
   ·rw [upd_same]; exact hq
  ·obtain ⟨x, hx, h1, h2⟩ := h.old i' hi'
   refine ⟨x, ?_, ?_, ?_⟩
   ·rw [get_ms _ _ _ _ (by omega), hx, Option.map_some, woken_quits h2]
   ·rw [upd_ne D _ e]; exact h1
   ·rw [upd_ne D _ e]; exact h2
 ·obtain ⟨x, hx, hsx⟩ := h.wk i' hi'
  refine ⟨x, ?_, ?_⟩
  ·rw [get_ms _ _ _ _ (by omega), hx, Option.map_some, hsx.woken]
  ·rw [upd_ne D _ (by omega)]; exact hsx
 ·by_cases e : i' = i
  ·subst e; rw [Deaf_own, h.deafW _ hi', upd_same]
  ·rw [Deaf_other t (by omega) _ g_of_ofEvents, h.deafW i' hi', upd_ne D _ e]
 ·rw [upd_ne D _ (by omega)] at hs
  obtain ⟨r, hr⟩ := h.rel i' hi' hs
  exact ⟨r, hr.appOther g_of_ofEvents (by omega)⟩
 ·obtain ⟨u, rfl, hu⟩ := h.tr
  refine ⟨u ++ MemOp.ofEvents (i + 1) fn pos es, by rw [Array.append_assoc], fun op hop => ?_⟩
  rcases Array.mem_append.1 hop with hop | hop
  ·exact hu op hop
  ·obtain ⟨k1, k2, k3, _⟩ := key op hop
   exact ⟨.inr (.inr k2), (fun x hx => by rw [k2] at hx; cases hx), k3 _⟩
theorem CT.congr {Sh : Loc -> Prop} {Own Rd Rd' : Nat -> Loc -> Prop} {J : Nat} (h : CT Sh Own Rd t J) (e : ∀ k, k <= J -> ∀ l, Rd k l ↔ Rd' k l) : CT Sh Own Rd' t J :=
 ⟨h.quiet, h.own, fun k k1 kj l hl => h.rd k k1 kj l ((e k kj l).2 hl), fun l hs hl => h.free l hs fun k k1 kj => ⟨(hl k k1 kj).1, fun x => (hl k k1 kj).2 ((e k kj l).1 x)⟩, h.mine, h.nr, h.gs⟩
theorem Com.spawn (G : Geo c) (h : Com c w0 t0 Low j gs w t D Lw Bo RB 0) {a' child : Goroutine} {x y : MemOp} {m mB : Nat} (hx : x.g = 0 /\ x.act = .go (c.o + j + 1)) (hy : y.g = c.o + j + 1 /\ y.act = .start)
  (hc : Goes c.P false (RX c w.heap.size j (fun _ => False)) (DA c w.heap.size) (AtMake c w.heap.size j mB) m child w) :
  Com c w0 t0 w.heap.size (j + 1) ((gs.setIfInBounds 0 a').push child) w (t ++ #[x, y]) (upd D (c.o + j) ⟨7, m + mB + 1, 0⟩) (upd Lw j w.heap.size) Bo
   (upd RB j fun b => c.base <= b /\ b < w.heap.size /\ b ≠ c.Wg /\ b ≠ c.C /\ ¬ IsB c w b) 0 := by
 have hm : ∀ op ∈ #[x, y], op = x \/ op = y := by intro op hop; simpa using hop
 have hst : ∀ op ∈ #[x, y], op.act ≠ .mark .disable /\ op.act ≠ .mark .enable := by
  intro op hop
  rcases hm op hop with rfl | rfl
  ·rw [hx.2]; exact ⟨by simp, by simp⟩
  ·rw [hy.2]; exact ⟨by simp, by simp⟩
 have hnone : Bo j = none := by
  cases hb : Bo j with
  | none => rfl
  | some b => have := (h.bs j b hb).1; omega
 have hrb : ∀ i b, upd RB j (fun b => c.base <= b /\ b < w.heap.size /\ b ≠ c.Wg /\ b ≠ c.C /\ ¬ IsB c w b) i b -> i < j + 1 /\ c.base <= b /\ b < upd Lw j w.heap.size i /\ b ≠ c.Wg /\ b ≠ c.C /\ ¬ IsB c w b := by
  intro i b hb
  by_cases e : i = j
  ·subst e
   rw [upd_same] at hb ⊢
   exact ⟨by omega, hb⟩
  ·rw [upd_ne _ _ e] at hb
   rw [upd_ne _ _ e]
   obtain ⟨h1, h2⟩ := h.rb i b hb
   exact ⟨by omega, h2⟩
 have hA : Apart (Sh c) (Own c Bo) (Rd c (upd RB j fun b => c.base <= b /\ b < w.heap.size /\ b ≠ c.Wg /\ b ≠ c.C /\ ¬ IsB c w b)) :=
  apart_of G h.live h.pay (fun i b hb => (h.bs i b hb).2) h.inj fun i b hb => let ⟨_, h1, _, h2, h3, h4⟩ := hrb i b hb; ⟨h1, h2, h3, h4⟩
 have hct := CT.congr h.ct (Rd' := Rd c (upd RB j fun b => c.base <= b /\ b < w.heap.size /\ b ≠ c.Wg /\ b ≠ c.C /\ ¬ IsB c w b)) (fun k hk l => by
  constructor
  ·rintro ⟨i, a, h1, h2, h3⟩
   exact ⟨i, a, h1, h2, by rw [upd_ne _ _ (by omega)]; exact h3⟩
  ·rintro ⟨i, a, h1, h2, h3⟩
   rw [upd_ne _ _ (by omega)] at h3
   exact ⟨i, a, h1, h2, h3⟩)
 refine ⟨by simp [h.size]; omega, fun i hi => ?_, fun i hi => ?_, fun i hi => ?_, Nat.le_refl _, Nat.lt_of_lt_of_le h.lowW h.lowS, Nat.lt_of_lt_of_le h.lowC h.lowS, Nat.le_trans h.lowB h.lowS, fun i b hb => ⟨by have := (h.bs i b hb).1; omega, (h.bs i b hb).2⟩, h.inj, hrb, fun i b h1 h2 h3 h4 h5 h6 => ?_, h.live, h.pay,
  by have := hct.fork hA hx hy h.deaf0; rwa [Nat.add_assoc] at this, h.norel.app fun op hop => ?_, by rw [Go.ConcN.Deaf_still t 0 _ hst, h.deaf0], fun i hi => ?_, fun i hi hs => ?_, h.frame, ?_, h.tr0, h.tidy, h.os⟩
 ·obtain ⟨g, hg, h1, h2⟩ := h.old i hi
  refine ⟨g, ?_, ?_, ?_⟩
  ·rw [Array.getElem?_push_lt (by simp [h.size]; omega), <- Array.getElem?_eq_getElem, Array.getElem?_setIfInBounds_ne (by omega)]
   exact hg
  ·rw [upd_ne D _ (by omega)]; exact h1
  ·rw [upd_ne D _ (by omega)]; exact h2
 ·by_cases e : i = j
  ·subst e
   refine ⟨child, ?_, ?_⟩
   ·rw [show c.o + i + 1 = (gs.setIfInBounds 0 a').size by simp [h.size], Array.getElem?_push_size]
   ·rw [upd_same, upd_same, hnone]; exact .a hc
  ·obtain ⟨g, hg, hsg⟩ := h.wk i (by omega)
   refine ⟨g, ?_, ?_⟩
   ·rw [Array.getElem?_push_lt (by simp [h.size]; omega), <- Array.getElem?_eq_getElem, Array.getElem?_setIfInBounds_ne (by omega)]
    exact hg
   ·rw [upd_ne D _ (by omega), upd_ne Lw _ e]; exact hsg
 ·by_cases e : i = j
  ·subst e; rw [upd_same]; exact Nat.le_refl _
  ·rw [upd_ne Lw _ e]; exact Nat.le_trans (h.low i (by omega)) h.lowS
 ·by_cases e : i = j
  ·subst e
   rw [upd_same] at h3 ⊢
   exact ⟨h2, h3, h4, h5, h6⟩
  ·rw [upd_ne _ _ e] at h3 ⊢
   exact h.rb' i b (by omega) h2 h3 h4 h5 h6
 ·rcases hm op hop with rfl | rfl
  ·rw [hx.2]; simp
  ·rw [hy.2]; simp
 ·rw [Go.ConcN.Deaf_still t _ _ hst]
  by_cases e : i = c.o + j
  ·subst e
   rw [upd_same]
   exact Go.ConcN.Deaf_absent fun a op ha e => by have := h.ct.gs a op ha; omega
  ·rw [upd_ne D _ e]; exact h.deafW i (by omega)
 ·by_cases e : i = j
  ·subst e; rw [upd_same] at hs; simp at hs
  ·rw [upd_ne D _ (by omega)] at hs
   obtain ⟨r, hr⟩ := h.rel i (by omega) hs
   refine ⟨r, hr.appNot fun op hop => ?_⟩
   rcases hm op hop with rfl | rfl
   ·rw [hx.1]; omega
   ·rw [hy.1]; omega
 ·obtain ⟨u, rfl, hu⟩ := h.tr
  refine ⟨u ++ #[x, y], by rw [Array.append_assoc], fun op hop => ?_⟩
  rcases Array.mem_append.1 hop with hop | hop
  ·exact hu op hop
  ·rcases hm op hop with rfl | rfl
   ·exact ⟨.inl hx.1, (fun z hz => by rw [hx.2] at hz; cases hz), by rw [hx.2]; trivial⟩
   ·exact ⟨.inr (.inl (by rw [hy.1]; omega)), (fun z hz => by rw [hy.2] at hz; cases hz), by rw [hy.2]; trivial⟩
end
end Go.Phase
namespace Go.Phase
open Go.Conc Go.Lift
open Go.ConcN (WgLive PayAt Has AtR0 AtK1 WSit RW CTag CT Apart OkW Ok0 ShN RelBy WD upd upd_same upd_ne PermW Vc Ssum Fsum phi pend cnt sumTo sumTo_upd sumTo_upd_out OpenSt isW3 Vc_upd Vc_le le_sumTo)
open Go.ConcR (KK wgBlock WgAt stA smA rd wr mk Payload Bk g_of_ofEvents)
variable [Payload]
def Inv (c : Cfg) (w0 : World) (t0 : Trace) (μ : Nat × Nat) (m : Machine) (t : Trace) : Prop :=
 ∃ (gs : Array Goroutine) (w : World) (sl : Option (Nat × Nat)) (Low j : Nat) (D : Nat -> WD) (Lw : Nat -> Nat) (Bo : Nat -> Option Nat) (RB : Nat -> Nat -> Prop) (tag : CTag) (f0 d0 : Nat) (a : Goroutine) (st sm : Int),
  m = crowd gs w sl /\ gs[0]? = some a /\ CX c Low tag j f0 d0 a w /\ Com c w0 t0 Low j gs w t D Lw Bo RB d0 /\ WgAt c.ty c.Wg w st sm /\ Go.ConcN.Mode (c.o + j) D tag st sm /\
  μ = (phi (c.o + c.n) (Vc (c.o + j) D) tag + Ssum (c.o + j) D, f0 + 2 * Fsum (c.o + j) D)
def Keeps (c : Cfg) (w0 : World) (t0 t : Trace) (μ : Nat × Nat) (s : Stepped × Array MemOp) : Prop := ∃ m₁ ops μ', s = (.next m₁, ops) /\ Lt2 μ' μ /\ Inv c w0 t0 μ' m₁ (t ++ ops)
section
variable {c : Cfg} {w0 w w' : World} {t0 t : Trace} {Low j : Nat} {gs : Array Goroutine} {sl : Option (Nat × Nat)} {D : Nat -> WD} {Lw : Nat -> Nat} {Bo Bo' : Nat -> Option Nat} {RB : Nat -> Nat -> Prop} {tag : CTag} {f0 d0 : Nat} {a : Goroutine} {st sm : Int}
theorem other_step (G : Geo c) (ha : gs[0]? = some a) (hcs : CX c Low tag j f0 d0 a w) {k : Nat} (hk : k < c.o + j) {g g' : Goroutine} {es : Array Event} (hg : gs[k + 1]? = some g) (hgo : stepG c.P false g w = .go g' w' es) (hR : R0 c w w') {x : WD} {st' sm' : Int}
  (hcom' : Com c w0 t0 Low j ((gs.map (woken c.P g g' w')).setIfInBounds (k + 1) g') w' (t ++ MemOp.ofEvents (k + 1) g.frame.fn g.frame.place es) (upd D k x) Lw Bo' RB d0) (hwg' : WgAt c.ty c.Wg w' st' sm')
  (hmode : ∀ tag', (tag' = tag \/ (tag = .blk /\ tag' = .w3)) -> (mayWake c.P g = true -> g'.status = .running -> tag' ≠ .blk) -> Go.ConcN.Mode (c.o + j) (upd D k x) tag' st' sm')
  (hlt : (x.stage < (D k).stage /\ cnt x <= cnt (D k)) \/ (x.stage = (D k).stage /\ x.fuel + 1 <= (D k).fuel)) :
  Keeps c w0 t0 t (phi (c.o + c.n) (Vc (c.o + j) D) tag + Ssum (c.o + j) D, f0 + 2 * Fsum (c.o + j) D) (runT c.P (crowd gs w sl) (k + 1)) := by
 obtain ⟨tag', f', hcs', hf', htag, hwk⟩ := hcs.wokenBy G.anch hR g g'
 have hrun := runT_crowd_go (P := c.P) (sl := sl) (i := k + 1) hg (by simpa using hgo)
 have e1 := sumTo_upd D x cnt hk
 have e2 := sumTo_upd D x WD.stage hk
 have e3 := sumTo_upd D x WD.fuel hk
 refine ⟨_, _, (phi (c.o + c.n) (Vc (c.o + j) (upd D k x)) tag' + Ssum (c.o + j) (upd D k x), f' + 2 * Fsum (c.o + j) (upd D k x)), hrun, ?_,
  _, w', sl, Low, j, upd D k x, Lw, Bo', RB, tag', f', d0, woken c.P g g' w' a, st', sm', rfl, ?_, hcs', hcom', hwg', hmode tag' htag hwk, rfl⟩
 ·rw [Go.ConcN.phi_retag _ _ htag]
  simp only [Vc, Ssum, Fsum] at *
  rcases hlt with ⟨h1, h2⟩ | ⟨h1, h2⟩
  ·refine Prod.Lex.left _ _ ?_
   have := Go.ConcN.phi_mono (c.o + c.n) (v' := sumTo (c.o + j) fun a => cnt (upd D k x a)) (v := sumTo (c.o + j) fun a => cnt (D a)) (by omega) tag
   omega
  ·have ec : cnt x = cnt (D k) := by simp only [cnt, h1]
   have ev : (sumTo (c.o + j) fun a => cnt (upd D k x a)) = sumTo (c.o + j) fun a => cnt (D a) := by omega
   have es' : (sumTo (c.o + j) fun a => (upd D k x a).stage) = sumTo (c.o + j) fun a => (D a).stage := by omega
   rw [ev, es']
   exact Prod.Lex.right _ (by omega)
 ·rw [get_ms _ _ _ _ (by omega), ha]; rfl
theorem step_old (G : Geo c) (ha : gs[0]? = some a) (hcs : CX c Low tag j f0 d0 a w) (hcom : Com c w0 t0 Low j gs w t D Lw Bo RB d0) (hwg : WgAt c.ty c.Wg w st sm) (hmode : Go.ConcN.Mode (c.o + j) D tag st sm) {i : Nat} (hi : i < c.o) {g : Goroutine} (hg : gs[i + 1]? = some g) (hrun : g.status = .running) :
  Keeps c w0 t0 t (phi (c.o + c.n) (Vc (c.o + j) D) tag + Ssum (c.o + j) D, f0 + 2 * Fsum (c.o + j) D) (runT c.P (crowd gs w sl) (i + 1)) := by
 obtain ⟨g₁, hg₁, hs1, hq⟩ := hcom.old i hi
 rw [hg] at hg₁
 cases hg₁
 generalize hfu : (D i).fuel = m at hq
 cases m with
 | zero => rw [hq.1] at hrun; cases hrun
 | succ q =>
  rcases hq with ⟨hf, _⟩ | ⟨_, g', es, hm, hstep, hq'⟩
  ·rw [hf] at hrun; cases hrun
  ·refine other_step G ha hcs (by omega) hg (hstep w) (.refl w) (hcom.stepO G hi hm hq') hwg (fun tag' ht _ => Go.ConcN.Mode.retag ?_ ht) (.inr ⟨hs1.symm, by rw [hfu]; exact Nat.le_refl _⟩)
   have := hmode.same (i := i) q (deafBehind (D i).deaf es)
   rwa [hs1] at this
/-! ### how the world turns -/
theorem stp_refl (w : World) : Stp c w w := ⟨Nat.le_refl _, fun _ h => h, fun _ _ => rfl, id, rfl, rfl⟩
theorem stp_at (w : World) (d : Nat) : Stp c w (w.at d) := ⟨Nat.le_refl _, fun _ h => h, fun _ _ => rfl, id, rfl, rfl⟩
section
variable (G : Geo c) (hcom : Com c w0 t0 Low j gs w t D Lw Bo RB d0)
theorem turn_wg (G : Geo c) (hcom : Com c w0 t0 Low j gs w t D Lw Bo RB d0) (hA : Aside c.Wg w w') (hl : WgLive c.ty c.Wg w') :
  R0 c w w' /\ Stp c w w' /\ (∀ b, b < w.heap.size -> b ≠ c.Wg -> b ≠ c.C -> ¬ IsB c w b -> ¬ IsB c w' b) /\ (∀ i, i < j -> RX c (Lw i) i (fun b => Bo i = some b) w w') /\ PayAt c.C c.n w' := by
 have hC := hA.block c.C G.hCW
 have hp : PayAt c.C c.n w' := let ⟨cs, h1, h2⟩ := hcom.pay; ⟨cs, hC.trans h1, h2⟩
 have hb : ∀ b, IsB c w b -> w'.heap[b]? = w.heap[b]? := fun b hb => hA.block b (fun e => notB_wg G hcom.live (e ▸ hb))
 have ht : Tidy c w -> Tidy c w' := fun h b o hb ho => by
  by_cases e : b = c.Wg
  ·subst e
   obtain ⟨st, sm, hw⟩ := hl
   unfold WgAt wgBlock at hw
   rw [hw] at ho
   cases ho
   exact ⟨_, _, rfl⟩
  ·rw [hA.block b e] at ho
   exact h b o hb ho
 refine ⟨⟨Nat.le_of_eq hA.size.symm, fun b _ h _ _ => hA.block b h, fun _ => hl⟩, ⟨Nat.le_of_eq hA.size.symm, fun b h => h.of_block (hb b h), fun b h => hA.block b (by have := G.bW; omega), ht, hA.os, hA.output⟩, fun b _ h2 _ h4 x => h4 (x.of_block (hA.block b h2).symm), fun i hi => ⟨Nat.le_of_eq hA.size.symm, fun b _ h _ _ => hA.block b h, fun b h => hb b (hcom.bs i b h).2.2, fun _ => hl, fun _ => hp, Go.ConcN.cell_of_block hC i⟩, hp⟩
theorem turn_make (_ : Geo c) (hcom : Com c w0 t0 Low j gs w t D Lw Bo RB d0) (x : Array Value) :
  R0 c w (made c w x) /\ Stp c w (made c w x) /\ (∀ b, b < w.heap.size -> b ≠ c.Wg -> b ≠ c.C -> ¬ IsB c w b -> ¬ IsB c (made c w x) b) /\ (∀ i, i < j -> RX c (Lw i) i (fun b => Bo i = some b) w (made c w x)) /\ PayAt c.C c.n (made c w x) /\ IsB c (made c w x) w.heap.size /\ WgLive c.ty c.Wg (made c w x) /\ ∀ st sm, WgAt c.ty c.Wg w st sm -> WgAt c.ty c.Wg (made c w x) st sm := by
 have hs : (made c w x).heap.size = w.heap.size + 1 := by simp [made]
 have hold : ∀ b, b < w.heap.size -> (made c w x).heap[b]? = w.heap[b]? := fun b hb => by
  simp only [made, Array.getElem?_push]
  rw [if_neg (by omega)]
 have hW := hold c.Wg (Nat.lt_of_lt_of_le hcom.lowW hcom.lowS)
 have hC := hold c.C (Nat.lt_of_lt_of_le hcom.lowC hcom.lowS)
 have hlv : WgLive c.ty c.Wg (made c w x) := let ⟨st, sm, hl⟩ := hcom.live; ⟨st, sm, hl.of_block hW⟩
 have hp : PayAt c.C c.n (made c w x) := let ⟨cs, h1, h2⟩ := hcom.pay; ⟨cs, hC.trans h1, h2⟩
 refine ⟨⟨by omega, fun b h _ _ _ => hold b h, fun _ => hlv⟩, ⟨by omega, fun b h => h.of_block (hold b h.lt), fun b h => hold b (by have := hcom.lowB; have := hcom.lowS; omega), fun h b o hb ho => ?_, rfl, rfl⟩, fun b h _ _ h4 y => h4 (y.of_block (hold b h).symm), fun i hi => ⟨by omega, fun b h _ _ _ => hold b (by have := hcom.low i hi; have := hcom.lowS; omega), fun b h => hold b (hcom.bs i b h).2.2.lt, fun _ => hlv, fun _ => hp, Go.ConcN.cell_of_block hC i⟩, hp, ⟨x, (0, 0), ?_⟩, hlv, fun st sm h => h.of_block hW⟩
 ·by_cases e : b < w.heap.size
  ·rw [hold b e] at ho
   exact h b o hb ho
  ·simp only [made, Array.getElem?_push] at ho
   split at ho
   ·cases ho
    exact ⟨_, _, rfl⟩
   ·rw [Array.getElem?_eq_none (by omega)] at ho
    cases ho
 ·exact Array.getElem?_push_size
theorem turn_own (G : Geo c) (hcom : Com c w0 t0 Low j gs w t D Lw Bo RB d0) {i b : Nat} (hB : Bo i = some b) {Low' : Nat} {es : Array Event} (hD : DB c Low' b i w w' es) :
  R0 c w w' /\ Stp c w w' /\ (∀ b, b < w.heap.size -> b ≠ c.Wg -> b ≠ c.C -> ¬ IsB c w b -> ¬ IsB c w' b) /\ (∀ i', i' < j -> i' ≠ i -> RX c (Lw i') i' (fun b => Bo i' = some b) w w') /\ PayAt c.C c.n w' /\ IsB c w' b /\ WgLive c.ty c.Wg w' /\ ∀ st sm, WgAt c.ty c.Wg w st sm -> WgAt c.ty c.Wg w' st sm := by
 obtain ⟨_, hb1, hb2⟩ := hcom.bs i b hB
 have ne : ∀ b', ¬ IsB c w b' -> b' ≠ b := fun b' h e => h (e ▸ hb2)
 have hbC : b ≠ c.C := fun e => notB_pay G hcom.pay (e ▸ hb2)
 have hW := hD.block c.Wg (ne _ (notB_wg G hcom.live)) (Ne.symm G.hCW)
 have hlv : WgLive c.ty c.Wg w' := let ⟨st, sm, hl⟩ := hcom.live; ⟨st, sm, hl.of_block hW⟩
 have hp := hD.pay hcom.pay
 refine ⟨⟨Nat.le_of_eq hD.size.symm, fun b' _ _ h3 h4 => hD.block b' (ne b' h4) h3, fun _ => hlv⟩, ⟨Nat.le_of_eq hD.size.symm, fun b' h => ?_, fun b' h => hD.block b' (by omega) (by have := G.bC; omega), hD.tidy, hD.os⟩, fun b' _ _ h3 h4 y => h4 (y.of_block (hD.block b' (ne b' h4) h3).symm), fun i' hi' hne => ⟨Nat.le_of_eq hD.size.symm, fun b' _ _ h3 h4 => hD.block b' (ne b' h4) h3, fun b' h => hD.block b' (fun e => hne (hcom.inj _ _ _ h (e ▸ hB))) (fun e => notB_pay G hcom.pay (e ▸ (hcom.bs i' b' h).2.2)), fun _ => hlv, fun _ => hp, hD.cells i' hne⟩, hp, hD.isb hb2, hlv, fun st sm h => h.of_block hW⟩
 by_cases e : b' = b
 ·subst e; exact hD.isb h
 ·exact h.of_block (hD.block b' e (fun e' => notB_pay G hcom.pay (e' ▸ h)))
end
theorem deaf_same {es : Array Event} (h : ∀ e ∈ es, e.loc ≠ .mark .disable /\ e.loc ≠ .mark .enable) (d : Nat) : deafBehind d es = d := deafBehind_still h d
theorem evr_deaf {L : Nat} {e : Event} (h : EvR c L w e) : e.loc ≠ .mark .disable /\ e.loc ≠ .mark .enable := by
 rcases h with ⟨a, rfl, _⟩ | h
 ·simp
 ·exact (neutral_norel (c := c) h).2
theorem step_early (G : Geo c) (ha : gs[0]? = some a) (hcs : CX c Low tag j f0 d0 a w) (hcom : Com c w0 t0 Low j gs w t D Lw Bo RB d0) (hwg : WgAt c.ty c.Wg w st sm) (hmode : Go.ConcN.Mode (c.o + j) D tag st sm) {i : Nat} (hi : i < j) {g : Goroutine} (hg : gs[c.o + i + 1]? = some g)
  (hs7 : (D (c.o + i)).stage = 7) (hs : WX c i (Lw i) (Bo i) 7 (D (c.o + i)).fuel (D (c.o + i)).deaf g w) :
  Keeps c w0 t0 t (phi (c.o + c.n) (Vc (c.o + j) D) tag + Ssum (c.o + j) D, f0 + 2 * Fsum (c.o + j) D) (runT c.P (crowd gs w sl) (c.o + i + 1)) := by
 generalize hfu : (D (c.o + i)).fuel = m at hs
 generalize hde : (D (c.o + i)).deaf = dd at hs
 have hdk : Deaf t (c.o + i + 1) = dd := by rw [hcom.deafW _ (by omega), hde]
 have same7 : ∀ m' : Nat, Go.ConcN.Mode (c.o + j) (upd D (c.o + i) ⟨7, m', 0⟩) tag st sm := fun m' => by
  have := hmode.same (i := c.o + i) m' 0
  rwa [hs7] at this
 generalize hbo : Bo i = bo at hs
 cases hs with
 | @a m mB _ _ h =>
  rcases Goes.cases h with hstop | ⟨m', rfl, hstep⟩
  ·obtain ⟨_, g', x, es, hgo, hne, hB⟩ := hstop w (RX.refl w)
   obtain ⟨t1, t2, t3, t4, t5, t6, t7, t8⟩ := turn_make G hcom x
   refine other_step (Bo' := upd Bo i (some w.heap.size)) (x := ⟨7, mB, 0⟩) G ha hcs (by omega) hg hgo t1 (hcom.stepW G hi t2 t3 (fun i' h1 _ => t4 i' h1) ?_ (fun i' e => upd_ne Bo _ e) (fun b hb => by rw [hbo] at hb; cases hb) (fun b hb => ?_) (fun e he => .inl (.inr (hne e he))) ?_ (fun h => absurd h (by omega)) t5 t7) (t8 st sm hwg) (fun _ ht _ => (same7 mB).retag ht) (.inr ⟨hs7.symm, by rw [hfu]; simp only; omega⟩)
   ·rw [upd_same]; exact .b hB
   ·rw [upd_same] at hb
    cases hb
    exact ⟨.inr (Nat.le_refl _), Nat.le_trans hcom.lowB hcom.lowS, t6⟩
   ·rw [hde]; exact deaf_same (fun e he => (neutral_norel (c := c) (hne e he)).2) 0
  ·obtain ⟨g', w', es, hgo, ⟨⟨d, rfl⟩, hev⟩, hg'⟩ := hstep w (RX.refl w)
   refine other_step (Bo' := Bo) (x := ⟨7, m' + mB + 1, 0⟩) G ha hcs (by omega) hg hgo (.at w d) (hcom.stepW G hi (stp_at w d) (fun _ _ _ _ h => h) (fun i' _ _ => RX.at w d) ?_ (fun _ _ => rfl) (fun _ h => h) (fun b hb => by rw [hbo] at hb; cases hb) (fun e he => .inl (hev e he)) ?_ (fun h => absurd h (by omega)) hcom.pay hcom.live) hwg (fun _ ht _ => (same7 _).retag ht) (.inr ⟨hs7.symm, by rw [hfu]; simp only; omega⟩)
   ·rw [hbo]; exact .a hg'
   ·rw [hde]; exact deaf_same (fun e he => evr_deaf (hev e he)) 0
 | @b b _ _ _ h =>
  rcases Goes.cases h with hstop | ⟨m', rfl, hstep⟩
  ·obtain ⟨⟨v, _, hhas, g', hgo, m₂, hk⟩, hout⟩ := hstop w (RX.refl w)
   refine other_step (Bo' := Bo) (x := ⟨6, m₂, 0⟩) G ha hcs (by omega) hg hgo (.refl w) (hcom.stepW G hi (stp_refl w) (fun _ _ _ _ h => h) (fun i' _ _ => RX.refl w) ?_ (fun _ _ => rfl) (fun _ h => h) (fun b' hb => ⟨.inl hb, (hcom.bs i b' hb).2⟩) (fun e he => ?_) ?_ (fun _ => ⟨t.size, RelBy.new hdk _ _⟩) hcom.pay hcom.live) hwg (fun _ ht _ => (hmode.counted (by omega) (by omega) (.inl rfl) _ _).retag ht) (.inl ⟨by simp only; omega, by simp [cnt, hs7]⟩)
   ·rw [hbo]; exact .c (v := v) (by omega) (.k1 hk) hout
   ·simp at he; subst he; exact .inr (.inr (.inr rfl))
   ·rw [hde]; rfl
  ·obtain ⟨g', w', es, hgo, hD, hg'⟩ := hstep w (RX.refl w)
   obtain ⟨t1, t2, t3, t4, t5, t6, t7, t8⟩ := turn_own G hcom hbo hD
   refine other_step (Bo' := Bo) (x := ⟨7, m', 0⟩) G ha hcs (by omega) hg hgo t1 (hcom.stepW G hi t2 t3 t4 ?_ (fun _ _ => rfl) (fun _ h => h) (fun b' hb => ⟨.inl hb, (hcom.bs i b' hb).2.1, ?_⟩) (fun e he => ?_) ?_ (fun h => absurd h (by omega)) t5 t7) (t8 st sm hwg) (fun _ ht _ => (same7 _).retag ht) (.inr ⟨hs7.symm, by rw [hfu]; exact Nat.le_refl _⟩)
   ·rw [hbo]; exact .b hg'
   ·rw [hbo] at hb; cases hb; exact t6
   ·rcases hD.ev e he with h1 | ⟨a, x, rfl, h1⟩
    ·exact .inl h1
    ·refine .inr (.inl ⟨a, x, rfl, ?_⟩)
     rcases h1 with h1 | h1
     ·exact .inr (by rw [h1]; exact hbo)
     ·exact .inl h1
   ·rw [hde]
    refine deaf_same (fun e he => ?_) 0
    rcases hD.ev e he with h1 | ⟨a, x, rfl, _⟩
    ·exact evr_deaf h1
    ·simp
 | c h6 _ _ => omega
end
end Go.Phase
