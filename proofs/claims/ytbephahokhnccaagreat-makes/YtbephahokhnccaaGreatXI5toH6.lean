/-
 made (4): all that lies behind New.
-/
import Derived.Test.YtbephahokhnccaaGreatI4
import Derived.Test.YtbephahokhnccaaGreatH5
namespace Go.Mark
open Go.RowKit Go.Proofs
theorem Lay.keep {E m : Nat} {W W' : World} {ds es : List (AccD × SV)} {vR : SV} {xs : List Value} (h : Lay E W ds es m vR xs) (hb : Below W.heap.size W W') : Lay E W' ds es m vR xs :=
 ⟨h.fst, own_below h.own hb, h.one, own_below h.rooms hb, fun p hp => let ⟨g, h1, h2, h3, h4⟩ := h.room p hp; ⟨g, h1, h2, h3.same (hb.block g h3.lt), h4⟩, h.nd⟩
theorem own_form {W : World} {base size n k c : Nat} {e : TypeId} {a : Option Addr} {xs : List Value} (h : W.ownsRow base e size (.slice a k c) n xs) : k = n ∧ (n = 0 ∨ ∃ g, a = some ⟨g, 0, none⟩) := by
 rcases h.2 with ⟨h1, h2⟩ | ⟨g, cap, cur, h1, _⟩
 ·simp only [Value.slice.injEq] at h1
  exact ⟨by omega, .inl h2⟩
 ·simp only [Value.slice.injEq] at h1
  exact ⟨h1.2.1, .inr ⟨g, h1.1⟩⟩
theorem kept_mem {ss : List (Nat × Nat)} {q : Nat × Nat} (h : q ∈ kept ss) : q ∈ ss := (List.mem_filter.1 h).1
/-- the document's world, as it is asked later -/
theorem ys_inR {u W W' w₀ : World} {pb : Nat} {ds ys : List (AccD × SV)} {vA : SV} {a : Option Addr} (hY : Ys u W pb ds ds.length vA ys) (hI : InR w₀ a ds) (hs : ∀ g, pb ≤ g → g < W.heap.size → W'.heap[g]? = W.heap[g]?) :
  InR W' vA.a ys ∧ W'.cell? ⟨pb, 0, none⟩ = some (.slice vA.a ys.length vA.c) ∧ ys.map (·.1) = ds.map (fun p => kp p.1) := by
 have hlst := hY.lst
 rw [List.take_length] at hlst
 have hown := own_same hY.own (fun g hg => hs g (by have := own_ge hY.own g hg; omega) (own_lt hY.own g hg))
 have hlen : ys.length = ds.length := by
  have := congrArg List.length hlst
  simpa using this
 obtain ⟨hn, hf⟩ := own_form hown
 have hall : ∀ p ∈ ys, ∃ q ∈ ds, p.1 = kp q.1 := fun p hp => by
  have : p.1 ∈ ys.map (·.1) := List.mem_map_of_mem hp
  rw [hlst] at this
  obtain ⟨q, hq, e⟩ := List.mem_map.1 this
  exact ⟨q, hq, e.symm⟩
 refine ⟨⟨?_, fun p hp => ?_, fun p hp => ?_, fun p hp => ?_, fun p hp q hq => ?_, by rw [hlen]; exact hI.len⟩, ?_, hlst⟩
 ·rcases hf with hf | ⟨g, hg⟩
  ·exact .inl (List.eq_nil_of_length_eq_zero (by omega))
  ·refine .inr ⟨g, 0, hg, fun i p hp => ?_⟩
   rw [hg, hn] at hown
   rw [Nat.zero_add]
   exact own_acc hown hp
 ·have ho := own_same (hY.sl p hp).1 (W' := W') (fun g hg => hs g (by have := own_ge (hY.sl p hp).1 g hg; omega) (own_lt (hY.sl p hp).1 g hg))
  obtain ⟨hn2, hf2⟩ := own_form ho
  refine ⟨hn2, ?_⟩
  rcases hf2 with hf2 | ⟨g, hg⟩
  ·exact .inl (List.eq_nil_of_length_eq_zero hf2)
  ·refine .inr ⟨g, 0, hg, fun i q hq => ?_⟩
   rw [hg, hn2] at ho
   rw [Nat.zero_add]
   exact own_slot ho hq
 ·obtain ⟨q, hq, e⟩ := hall p hp
  rw [e]
  exact hI.bal q hq
 ·obtain ⟨q, hq, e⟩ := hall p hp
  rw [e]
  exact Nat.lt_of_le_of_lt (List.length_filter_le _ _) (hI.num q hq)
 ·obtain ⟨q', hq', e⟩ := hall p hp
  rw [e] at hq
  exact hI.key q' hq' q (kept_mem hq)
 ·have hc := hY.cell
  rw [hn, ← hlen] at hc
  exact (World.cell?_of_block (a := ⟨pb, 0, none⟩) (hs pb (Nat.le_refl _) hY.lt)).trans hc
theorem xm_lt {E m : Nat} {u : World} {ds es : List (AccD × SV)} {vR : SV} {xs : List Value} (h : Lay E u ds es m vR xs) : ∀ g, Xm E es g → E ≤ g ∧ g < u.heap.size := fun g hg => by
 rcases hg with rfl | ⟨p, hp, hg⟩
 ·exact ⟨Nat.le_refl _, (h.own.lt _ rfl).2⟩
 ·obtain ⟨k, x1, x2, x3, _⟩ := h.room p hp
  rw [x1] at hg
  cases hg
  exact ⟨Nat.le_of_lt x2, x3.lt⟩
section
variable {ds es : List (AccD × SV)} {a : Option Addr} {cap E : Nat} {vR : SV} {t : Nat → Value} {u w₀ : World}
set_option maxRecDepth 100000 in
set_option maxHeartbeats 4000000 in
theorem post4_yes (hL : Lay E u ds es 8 vR []) (hel : es.length = ds.length) (hw₀ : w₀.heap.size = E) (hI : InR w₀ a ds) (hag : ∀ p x, w₀.cell? p = some x → u.cell? p = some x) (hso : Sound (ds.map (·.1))) (pw : Nat) (Ψ : Value → World → Prop)
  (hΨ : ∀ (W : World) (pp pb : Nat) (vA : SV) (ys : List (AccD × SV)), Kept (Xm E es) u W → u.heap.size ≤ pp → W.cell? ⟨pp, 0, none⟩ = some (.pointer (some ⟨pw, 0, none⟩)) → W.cell? ⟨pp, 1, none⟩ = some (.pointer (some ⟨pb, 0, none⟩)) → W.cell? ⟨pb, 0, none⟩ = some (.slice vA.a ys.length vA.c) → InR W vA.a ys → ys.map (·.1) = ds.map (fun p => kp p.1) → Ψ (.tuple #[.pointer (some ⟨pp, 0, none⟩), .bool true]) W) :
  wpOps TryQ.prog ops4 (fun e a' v' => e = .normal ∧ r4.wp TryQ.prog (bodyPost TryQ.prog Tryz.f4 fun e v' => ∃ val, e = .returned val ∧ Ψ val v') a' v') [4, 5, 6, 7, 8] ⟨#[.slice a ds.length cap, t 1, t 2, t 3, .int .i64 (ds.length : Int), .slice (some ⟨E, 0, none⟩) (ds.length + 8) (ds.length + 8), .slice vR.a vR.n vR.c, t 7, t 8, t 9, t 10, t 11, t 12, t 13, t 14, t 15, t 16, t 17, t 18, t 19, t 20, t 21, t 22, t 23, t 24, t 25, t 26, t 27, t 28, t 29, t 30, t 31, t 32, t 33, t 34, t 35, t 36, t 37, t 38, t 39, t 40, t 41, t 42, t 43, t 44, t 45, t 46, t 47, t 48, t 49, t 50, t 51, t 52, t 53, t 54, t 55, t 56, t 57, t 58, t 59, t 60, t 61, t 62, t 63, t 64, t 65, t 66, t 67, t 68, .tuple #[.pointer (some ⟨pw, 0, none⟩), .nilIface], t 70, t 71, t 72, t 73, t 74, t 75, t 76, t 77, t 78, t 79, t 80, t 81, t 82, t 83, t 84, t 85, t 86, t 87, t 88, t 89, t 90, t 91, t 92, t 93, t 94, t 95, t 96, t 97, t 98, t 99, t 100, t 101, t 102, t 103, t 104, t 105, t 106, t 107, t 108, t 109, t 110, t 111, t 112, t 113, t 114, t 115, t 116, t 117, t 118, t 119, t 120, t 121, t 122, t 123, t 124, t 125, t 126, t 127, t 128, t 129, t 130, t 131, t 132, t 133, t 134, t 135, t 136, t 137, t 138, t 139, t 140, t 141, t 142, t 143, t 144, t 145], []⟩ u := by
 refine ops4_end (cap := cap) (vR := vR) _ _ (fun a' v' => r4.wp TryQ.prog (bodyPost TryQ.prog Tryz.f4 fun e v' => ∃ val, e = .returned val ∧ Ψ val v') a' v') (fun T hsz h0 h4 h5 h6 h9 h10 => ?_)
 obtain ⟨t, hT, ht⟩ := lit146 T hsz
 rw [hT, ht 0 _ h0, ht 4 _ h4, ht 5 _ h5, ht 6 _ h6, ht 9 _ h9, ht 10 _ h10, r4_eq]
 clear hT ht h0 h4 h5 h6 h9 h10 hsz T
 refine c14_yes (t := t) (vR := vR) (cap := cap) (hI.at hag) hso pw .nilIface (.seq l4 t4) _ (fun T W pb vA ys hsz h0 h4 h5 h6 h9 h10 h11 hY => ?_)
 have hL1 := hL.keep hY.below
 have hag1 : ∀ p x, w₀.cell? p = some x → W.cell? p = some x := fun p x hp => (hY.below.cell (p := p) (cell_lt4 (hag p x hp))).trans (hag p x hp)
 obtain ⟨t1, hT, ht⟩ := lit146 T hsz
 rw [hT, ht 0 _ h0, ht 4 _ h4, ht 5 _ h5, ht 6 _ h6, ht 9 _ h9, ht 10 _ h10, ht 11 _ h11]
 clear hT ht h0 h4 h5 h6 h9 h10 h11 hsz T
 refine loop4 (t := t1) (cap := cap) (vR := vR) hL1 hel hw₀ hI hag1 _ _ _ t4 _ (fun ch a d v w h => by obtain ⟨_, _, h, _⟩ := h; cases h) (fun T W2 hsz h9 h10 h11 hk => ?_)
 obtain ⟨t2, hT, ht⟩ := lit146 T hsz
 rw [hT, ht 9 _ h9, ht 10 _ h10, ht 11 _ h11]
 clear hT ht h9 h10 h11 hsz T
 refine t4_yes (t := t2) pw pb Ψ (fun W3 pp hb3 hpp hc0 hc1 => ?_)
 have hxl := xm_lt hL
 have hs : ∀ g, pb ≤ g → g < W.heap.size → W3.heap[g]? = W.heap[g]? := fun g h1 h2 =>
  (hb3.block g (Nat.lt_of_lt_of_le h2 hk.size)).trans (hk.block g h2 (fun x => by have := (hxl g x).2; have := hY.lo; omega))
 obtain ⟨x1, x2, x3⟩ := ys_inR hY hI hs
 refine hΨ W3 pp pb vA ys ?_ (Nat.le_trans hY.below.size (Nat.le_trans hk.size hpp)) hc0 hc1 x2 x1 x3
 refine (Kept.trans (Z := Xm E es) (kept_below hY.below) hk (fun g hg x => by omega) (fun g _ x => x)).trans (kept_below hb3) (fun g _ x => x) (fun g hg x => ?_)
 have h1 := hY.below.size
 have h2 := hk.size
 omega
set_option maxRecDepth 100000 in
set_option maxHeartbeats 4000000 in
theorem post4_no (hL : Lay E u ds es 8 vR []) (hel : es.length = ds.length) (hw₀ : w₀.heap.size = E) (hI : InR w₀ a ds) (hag : ∀ p x, w₀.cell? p = some x → u.cell? p = some x) (hso : ¬ Sound (ds.map (·.1))) (Ψ : Value → World → Prop)
  (hΨ : ∀ W : World, Kept (Xm E es) u W → Ψ (.tuple #[.pointer none, .bool true]) W) :
  wpOps TryQ.prog ops4 (fun e a' v' => e = .normal ∧ r4.wp TryQ.prog (bodyPost TryQ.prog Tryz.f4 fun e v' => ∃ val, e = .returned val ∧ Ψ val v') a' v') [4, 5, 6, 7, 8] ⟨#[.slice a ds.length cap, t 1, t 2, t 3, .int .i64 (ds.length : Int), .slice (some ⟨E, 0, none⟩) (ds.length + 8) (ds.length + 8), .slice vR.a vR.n vR.c, t 7, t 8, t 9, t 10, t 11, t 12, t 13, t 14, t 15, t 16, t 17, t 18, t 19, t 20, t 21, t 22, t 23, t 24, t 25, t 26, t 27, t 28, t 29, t 30, t 31, t 32, t 33, t 34, t 35, t 36, t 37, t 38, t 39, t 40, t 41, t 42, t 43, t 44, t 45, t 46, t 47, t 48, t 49, t 50, t 51, t 52, t 53, t 54, t 55, t 56, t 57, t 58, t 59, t 60, t 61, t 62, t 63, t 64, t 65, t 66, t 67, t 68, .tuple #[.pointer none, .iface 69 (.agg #[.int .i64 1])], t 70, t 71, t 72, t 73, t 74, t 75, t 76, t 77, t 78, t 79, t 80, t 81, t 82, t 83, t 84, t 85, t 86, t 87, t 88, t 89, t 90, t 91, t 92, t 93, t 94, t 95, t 96, t 97, t 98, t 99, t 100, t 101, t 102, t 103, t 104, t 105, t 106, t 107, t 108, t 109, t 110, t 111, t 112, t 113, t 114, t 115, t 116, t 117, t 118, t 119, t 120, t 121, t 122, t 123, t 124, t 125, t 126, t 127, t 128, t 129, t 130, t 131, t 132, t 133, t 134, t 135, t 136, t 137, t 138, t 139, t 140, t 141, t 142, t 143, t 144, t 145], []⟩ u := by
 refine ops4_end (cap := cap) (vR := vR) _ _ (fun a' v' => r4.wp TryQ.prog (bodyPost TryQ.prog Tryz.f4 fun e v' => ∃ val, e = .returned val ∧ Ψ val v') a' v') (fun T hsz h0 h4 h5 h6 h9 h10 => ?_)
 obtain ⟨t, hT, ht⟩ := lit146 T hsz
 rw [hT, ht 0 _ h0, ht 4 _ h4, ht 5 _ h5, ht 6 _ h6, ht 9 _ h9, ht 10 _ h10, r4_eq]
 clear hT ht h0 h4 h5 h6 h9 h10 hsz T
 refine c14_no (t := t) (vR := vR) (cap := cap) (hI.at hag) hso _ (.seq l4 t4) _ (fun T W hsz h0 h4 h5 h6 h9 h10 h11 hb => ?_)
 have hL1 := hL.keep hb
 have hag1 : ∀ p x, w₀.cell? p = some x → W.cell? p = some x := fun p x hp => (hb.cell (p := p) (cell_lt4 (hag p x hp))).trans (hag p x hp)
 obtain ⟨t1, hT, ht⟩ := lit146 T hsz
 rw [hT, ht 0 _ h0, ht 4 _ h4, ht 5 _ h5, ht 6 _ h6, ht 9 _ h9, ht 10 _ h10, ht 11 _ h11]
 clear hT ht h0 h4 h5 h6 h9 h10 h11 hsz T
 refine loop4 (t := t1) (cap := cap) (vR := vR) hL1 hel hw₀ hI hag1 _ _ _ t4 _ (fun ch a d v w h => by obtain ⟨_, _, h, _⟩ := h; cases h) (fun T W2 hsz h9 h10 h11 hk => ?_)
 obtain ⟨t2, hT, ht⟩ := lit146 T hsz
 rw [hT, ht 9 _ h9, ht 10 _ h10, ht 11 _ h11]
 clear hT ht h9 h10 h11 hsz T
 refine t4_no (t := t2) _ Ψ (fun W3 hb3 => hΨ W3 ?_)
 refine (Kept.trans (Z := Xm E es) (kept_below hb) hk (fun g hg x => by omega) (fun g _ x => x)).trans (kept_below hb3) (fun g _ x => x) (fun g hg x => ?_)
 have h1 := hb.size
 have h2 := hk.size
 omega
end
end Go.Mark
/-
  made beside leavers (4): what its pieces want.
-/
set_option linter.unusedSectionVars false
namespace Go.Mark
open Go.Conc Go.Walk Go.Phase Go.RowKit Go.Conc.Lib Go.ConcR.Gen Go.ConcN.Gen Go.Lift Go.Proofs
open Go.ConcN (WgLive Has RW DWs AtR0 PayAt)
open Go.ConcR (KK WgAt stA smA rd wr mk Payload)
theorem chain_steps {P : Program} {Φ : Act → World → Prop} (c : Code) : ∀ (l : List Code) (a : Act) (w : World), wpChain P Φ l a w → ∀ (b : Frame) (k : List Item) (cs : List Frame), ∃ a' w', Φ a' w' ∧ Steps P (lone (b.at a (.code (chain l c) :: k)) cs w) (lone (b.at a' (.code c :: k)) cs w')
  | [], a, w, h, _, _, _ => ⟨a, w, h, Steps.refl _ _⟩
  | d :: l, a, w, h, b, k, cs => by
    obtain ⟨e, a1, w1, ⟨rfl, h1⟩, hs⟩ := h b (.code (chain l c) :: k) cs
    obtain ⟨a', w', hΦ, hs2⟩ := chain_steps c l a1 w1 h1 b k cs
    exact ⟨a', w', hΦ, (Steps.head step_seq hs).trans hs2⟩
/-- some pieces of code -/
theorem lift_chain {D : Nat → Prop} {l : List Code} {c : Code} {b : Frame} {a : Act} {k : List Item} {cw : List Frame} {w : World} {Φ : Act → World → Prop} (hb : b.kind = .normal) (ha : a.defers = []) (hc : okCode Tryz.prog (chain l c) = true) (hc' : okCode Tryz.prog c = true) (hk : ∀ x ∈ k, okItem Tryz.prog x = true)
    (hex : ∃ v, Rel (veil D) w v) (hwp : ∀ v, Rel (veil D) w v → wpChain TryQ.prog (fun a' v' => a'.defers = [] ∧ Φ a' v') l a v) :
    Will Tryz.prog (DClean (veil D)) (fun g w' => ∃ a' v', g = G (b.at a' (.code c :: k)) cw ∧ Rel (veil D) w' v' ∧ Stays w w' v' ∧ a'.defers = [] ∧ Φ a' v') (G (b.at a (.code (chain l c) :: k)) cw) w := by
  refine will_mono ?_ (lift (fair D) (cw := cw) (S := fun fr frs v => ∃ a', fr = b.at a' (.code c :: k) ∧ frs = [] ∧ a'.defers = [] ∧ Φ a' v) (fr := b.at a (.code (chain l c) :: k)) (frs := []) (w := w)
    (tame_at hb ha (fun x hx => by rcases List.mem_cons.1 hx with rfl | hx; exact hc; exact hk x hx)) (fun f hf => by simp at hf) hex (fun v hv => ?_))
  · rintro g w' ⟨fr, frs, v, rfl, hr, hs, a', rfl, rfl, hd, hΦ⟩
    exact ⟨a', v, rfl, hr, hs, hd, hΦ⟩
  · obtain ⟨a', v', ⟨hd, hΦ⟩, n, hn⟩ := chain_steps c l a v (hwp v hv) b k [trap FQ.size]
    rw [TryQ.prog_eq] at hn
    exact ⟨n, b.at a' (.code c :: k), [], v', hn, tame_at hb hd (fun x hx => by rcases List.mem_cons.1 hx with rfl | hx; exact hc'; exact hk x hx), a', rfl, rfl, hd, hΦ⟩
theorem okch4 : okCode Tryz.prog (chain p4 q4) = true := by kernel_rfl
theorem okq4 : okCode Tryz.prog q4 = true := by kernel_rfl
theorem okr4 : okCode Tryz.prog r4 = true := by kernel_rfl
theorem oko4 : okOps Tryz.prog ops4 = true := by kernel_rfl
/-- rows of numbers: no part of the ledger's -/
def IntRow (u : World) (g : Nat) : Prop := (∃ z, u.cell? ⟨g, 0, none⟩ = some (.int .i64 z)) ∨ ∃ z y, u.cell? ⟨g, 0, none⟩ = some (.int .u64 z) ∧ u.cell? ⟨g, 4, none⟩ = some (.int .u64 y)
theorem IntRow.cell {u : World} {g : Nat} (h : IntRow u g) : ∃ x, u.cell? ⟨g, 0, none⟩ = some x := by
  rcases h with ⟨z, h⟩ | ⟨z, y, h, _⟩ <;> exact ⟨_, h⟩
theorem MapB.kept {κ : Type} {kf : κ → Value} {u W : World} {X : Nat → Prop} {r : Nat} {l : List (κ × Value)} (h : MapB kf u r l) (hk : Kept X u W) (hX : ∀ g, X g → IntRow u g) : MapB kf W r l := by
  refine h.same (hk.block r h.lt (fun hx => ?_))
  obtain ⟨x, hx⟩ := (hX r hx).cell
  obtain ⟨es, c, h1, _⟩ := h
  simp only [World.cell?, h1] at hx
  cases hx
theorem LedAt.kept {u W : World} {X : Nat → Prop} {pa : Nat} {d : AccD} (h : LedAt u pa d) (hk : Kept X u W) (hX : ∀ g, X g → IntRow u g) : LedAt W pa d := by
  obtain ⟨mk, ms, hc, hM⟩ := h.ex
  have hn : ¬ X pa := fun hx => by
    rcases hX pa hx with ⟨z, hz⟩ | ⟨z, y, hz, hy⟩
    · have := hc 0 _ rfl
      rw [Nat.zero_add, hz] at this
      cases this
    · have := hc 4 _ rfl
      rw [Nat.zero_add, hy] at this
      cases this
  have hb := hk.block pa h.lt hn
  exact ⟨⟨mk, ms, fun j v hj => (World.cell?_of_block (a := ⟨pa, 0 + j, none⟩) hb).trans (hc j v hj), hM.kept hk hX⟩, h.key, h.nd, h.num⟩
theorem LedgerAt.kept {u W : World} {X : Nat → Prop} {pl : Nat} {L : List (AccD × Nat)} (h : LedgerAt u pl L) (hk : Kept X u W) (hX : ∀ g, X g → IntRow u g) : LedgerAt W pl L := by
  obtain ⟨ma, h1, h2⟩ := h.ex
  have hn : ¬ X pl := fun hx => by
    rcases hX pl hx with ⟨z, hz⟩ | ⟨z, y, hz, hy⟩
    · rw [h1] at hz; cases hz
    · rw [h1] at hz; cases hz
  exact ⟨⟨ma, (World.cell?_of_block (a := ⟨pl, 0, none⟩) (hk.block pl h.lt hn)).trans h1, h2.kept hk hX⟩, Nat.lt_of_lt_of_le h.lt hk.size, fun q hq => (h.acc q hq).kept hk hX, h.nd, h.rng, h.num⟩
theorem ptr_kept {u W : World} {X : Nat → Prop} {p : Nat} {q : Option Addr} (h : u.cell? ⟨p, 0, none⟩ = some (.pointer q)) (hk : Kept X u W) (hX : ∀ g, X g → IntRow u g) : W.cell? ⟨p, 0, none⟩ = some (.pointer q) := by
  have hn : ¬ X p := fun hx => by
    rcases hX p hx with ⟨z, hz⟩ | ⟨z, y, hz, hy⟩
    · rw [h] at hz; cases hz
    · rw [h] at hz; cases hz
  exact (World.cell?_of_block (a := ⟨p, 0, none⟩) (hk.block p (cell_lt4 h) hn)).trans h
theorem RoomAt.tw {v u : World} {g : Nat} {ss : List (Nat × Nat)} (h : RoomAt v g ss) (ht : Tw v u) : RoomAt u g ss := by
  refine h.same ?_
  obtain ⟨x, hx⟩ := Option.isSome_iff_exists.1 (h.th 0 (by omega)).1
  simp only [World.cell?] at hx
  cases hb : v.heap[g]? with
  | none => rw [hb] at hx; cases hx
  | some o =>
    rw [hb] at hx
    cases o with
    | cells c e f => exact ht.obj g _ hb (.inl trivial)
    | _ => cases hx
theorem Lay.tw {E m : Nat} {v u : World} {ds es : List (AccD × SV)} {vR : SV} {xs : List Value} (h : Lay E v ds es m vR xs) (ht : Tw v u) : Lay E u ds es m vR xs :=
  ⟨h.fst, own_tw h.own ht, h.one, own_tw h.rooms ht, fun p hp => let ⟨g, h1, h2, h3, h4⟩ := h.room p hp; ⟨g, h1, h2, h3.tw ht, h4⟩, h.nd⟩
theorem Lay.own0 {E : Nat} {u : World} {ds es : List (AccD × SV)} {vR : SV} (h : Lay E u ds es 8 vR []) : u.ownsRow E 31 8 (.slice (some ⟨E, 0, none⟩) (ds.length + 8) (ds.length + 8)) (ds.length + 8) (flatA (es ++ List.replicate 8 e79)) := by
  have := h.own
  rwa [List.append_nil] at this
theorem xm_row {E : Nat} {u : World} {ds es : List (AccD × SV)} {vR : SV} (h : Lay E u ds es 8 vR []) : ∀ g, Xm E es g → IntRow u g := fun g hg => by
  rcases hg with rfl | ⟨p, hp, hg⟩
  · have hl : 0 < (es ++ List.replicate 8 e79).length := by simp
    have := own_acc h.own0 (List.getElem?_eq_getElem hl) 0 _ rfl
    exact .inl ⟨_, this⟩
  · obtain ⟨k, x1, _, x3, _⟩ := h.room p hp
    rw [x1] at hg
    cases hg
    have hl : 0 < (p.1.slots ++ List.replicate 8 s78).length := by simp
    have hc := x3.sl 0 _ (List.getElem?_eq_getElem hl)
    exact .inr ⟨_, _, hc 0 _ rfl, hc 4 _ rfl⟩
theorem Lay.fsts {E : Nat} {u : World} {ds es : List (AccD × SV)} {vR : SV} {m : Nat} {xs : List Value} (h : Lay E u ds es m vR xs) (hel : es.length = ds.length) : es.map (·.1) = ds.map (·.1) := by
  have := h.fst
  rwa [hel, List.take_length] at this
theorem flatA_one : ∀ l : List (AccD × SV), ∀ v ∈ flatA l, v.oneCell' = true
  | [], v, h => by cases h
  | p :: l, v, h => by
    rw [flatA] at h
    rcases List.mem_append.1 h with h | h
    · exact acc_one p.1 p.2 v h
    · exact flatA_one l v h
theorem Lay.row {E : Nat} {u : World} {ds es : List (AccD × SV)} {vR : SV} (h : Lay E u ds es 8 vR []) (hel : es.length = ds.length) : ∃ X, u.heap[E]? = some (.cells X 31) ∧ 0 < X.size ∧ es.length * 8 ≤ X.size ∧ X.all (·.oneCell') = true := by
  have ho := h.own0
  rcases ho.2 with ⟨h1, _⟩ | ⟨g, cap, cur, h1, _, h3, h4, _, h6, h7⟩
  · cases h1
  · simp only [Value.slice.injEq, Option.some.injEq, Addr.mk.injEq, and_true, true_and] at h1
    obtain ⟨rfl, rfl⟩ := h1
    refine ⟨cur, h3, by omega, by omega, Array.all_eq_true.2 fun i hi => ?_⟩
    rw [List.take_of_length_le (by rw [Array.length_toList, h6]; exact Nat.le_refl _)] at h7
    exact flatA_one _ _ (by rw [← h7]; exact Array.mem_toList_iff.2 (Array.getElem_mem hi))
theorem Lay.ins {E : Nat} {u w₀ : World} {ds es : List (AccD × SV)} {vR : SV} {a : Option Addr} (h : Lay E u ds es 8 vR []) (hel : es.length = ds.length) (hI : InR w₀ a ds) : Ins u E es := by
  have hall : ∀ p ∈ es, ∃ q ∈ ds, q.1 = p.1 := fun p hp => by
    have : p.1 ∈ es.map (·.1) := List.mem_map_of_mem hp
    rw [h.fsts hel] at this
    exact List.mem_map.1 this
  refine ⟨fun i p hp => ?_, fun p hp => ?_, fun p hp => ?_, fun p hp => ?_, fun p hp => ?_, by rw [hel]; exact hI.len⟩
  · rw [Nat.zero_add]
    exact own_acc h.own0 (by rw [List.getElem?_append_left (List.getElem?_eq_some_iff.1 hp).1]; exact hp)
  · obtain ⟨g, x1, _, x3, _⟩ := h.room p hp
    refine ⟨g, _, x1, fun i q hq => ?_⟩
    have := x3.sl i q (by rw [List.getElem?_append_left (List.getElem?_eq_some_iff.1 hq).1]; exact hq)
    rwa [Nat.zero_add] at this
  · obtain ⟨q, hq, e⟩ := hall p hp
    rw [← e]; exact hI.bal q hq
  · obtain ⟨q, hq, e⟩ := hall p hp
    rw [← e]; exact hI.num q hq
  · obtain ⟨q, hq, e⟩ := hall p hp
    rw [← e]; exact hI.key q hq
/-- one operation -/
theorem lift_op1 {D : Nat → Prop} {ops : Array Oper} {i : Nat} {rest : List Nat} {o : Oper} {b : Frame} {a : Act} {k : List Item} {cw : List Frame} {w : World} {Φ : Act → World → Prop} (hb : b.kind = .normal) (ha : a.defers = []) (hc : okOps Tryz.prog ops = true) (hk : ∀ x ∈ k, okItem Tryz.prog x = true) (hi : ops[i]? = some o) (hw : Region.wanted o (yielded ops a.tmps) = true)
    (hex : ∃ v, Rel (veil D) w v) (hop : ∀ v, Rel (veil D) w v → ∃ x v', (execOp a.eval o).run TryQ.prog v = .ok (.value x) v' ∧ Φ (a.put o.dst x) v') :
    Will Tryz.prog (DClean (veil D)) (fun g w' => ∃ a' v', g = G (b.at a' (.inRegion ops rest :: k)) cw ∧ Rel (veil D) w' v' ∧ Stays w w' v' ∧ a'.defers = [] ∧ Φ a' v') (G (b.at a (.inRegion ops (i :: rest) :: k)) cw) w := by
  have tc : ∀ a' : Act, a'.defers = [] → ∀ l, TameF Tryz.prog (b.at a' (.inRegion ops l :: k)) := fun a' ha' l => tame_at hb ha' (fun x hx => by rcases List.mem_cons.1 hx with rfl | hx; exact hc; exact hk x hx)
  refine will_mono ?_ (lift (fair D) (cw := cw) (S := fun fr frs v => ∃ a', fr = b.at a' (.inRegion ops rest :: k) ∧ frs = [] ∧ a'.defers = [] ∧ Φ a' v) (fr := b.at a (.inRegion ops (i :: rest) :: k)) (frs := []) (w := w)
    (tc a ha _) (fun f hf => by simp at hf) hex (fun v hv => ?_))
  · rintro g w' ⟨fr, frs, v, rfl, hr, hs, a', rfl, rfl, hd, hΦ⟩
    exact ⟨a', v, rfl, hr, hs, hd, hΦ⟩
  · obtain ⟨x, v', hr, hΦ⟩ := hop v hv
    have hg := stepG_op (P := TryQ.prog) (b := b) (k := k) (cs := [trap FQ.size]) (w := v) (rest := rest) hi hw
    have hfin : (b.at a (.inRegion ops (i :: rest) :: k)).finish x = b.at (a.put o.dst x) (.inRegion ops rest :: k) := by
      rw [Frame.finish_at, hi]
      rfl
    have hs : step TryQ.prog (lone (b.at a (.inRegion ops (i :: rest) :: k)) [trap FQ.size] v) = .next (lone (b.at (a.put o.dst x) (.inRegion ops rest :: k)) [trap FQ.size] v') :=
      step_lone_go (by rw [hg, ← hfin]; simp [stepG.apply, hr])
    obtain ⟨n, hn⟩ := Steps.one hs
    rw [TryQ.prog_eq] at hn
    exact ⟨n, _, [], v', hn, tc _ (put_nil _ _ _ ha) _, _, rfl, rfl, put_nil _ _ _ ha, hΦ⟩
noncomputable def o42 : Oper := (ops4[2]?).getD default
theorem o42_at : ops4[2]? = some o42 := by kernel_rfl
section
variable {h0 : Array Obj} {ds : List (AccD × SV)} {a : Option Addr} {E cap : Nat} {vR : SV} {t : Nat → Value} {cs : List Frame}
set_option maxRecDepth 100000 in
set_option maxHeartbeats 4000000 in
theorem slice4 (u : World) : (execOp (Act.eval ⟨#[.slice a ds.length cap, t 1, t 2, t 3, .int .i64 (ds.length : Int), .slice (some ⟨E, 0, none⟩) (ds.length + 8) (ds.length + 8), .slice vR.a vR.n vR.c, t 7, t 8, t 9, t 10, t 11, t 12, t 13, t 14, t 15, t 16, t 17, t 18, t 19, t 20, t 21, t 22, t 23, t 24, t 25, t 26, t 27, t 28, t 29, t 30, t 31, t 32, t 33, t 34, t 35, t 36, t 37, t 38, t 39, t 40, t 41, t 42, t 43, t 44, t 45, t 46, t 47, t 48, t 49, t 50, t 51, t 52, t 53, t 54, t 55, t 56, t 57, t 58, t 59, t 60, t 61, t 62, t 63, t 64, t 65, .slice (some ⟨E, 0, none⟩) (ds.length + 8) (ds.length + 8), .int .i64 (ds.length : Int), t 68, t 69, t 70, t 71, t 72, t 73, t 74, t 75, t 76, t 77, t 78, t 79, t 80, t 81, t 82, t 83, t 84, t 85, t 86, t 87, t 88, t 89, t 90, t 91, t 92, t 93, t 94, t 95, t 96, t 97, t 98, t 99, t 100, t 101, t 102, t 103, t 104, t 105, t 106, t 107, t 108, t 109, t 110, t 111, t 112, t 113, t 114, t 115, t 116, t 117, t 118, t 119, t 120, t 121, t 122, t 123, t 124, t 125, t 126, t 127, t 128, t 129, t 130, t 131, t 132, t 133, t 134, t 135, t 136, t 137, t 138, t 139, t 140, t 141, t 142, t 143, t 144, t 145], []⟩) o42).run TryQ.prog u = .ok (.value (.slice (some ⟨E, 0, none⟩) ds.length (ds.length + 8))) u := by
  dsimp only [o42, ops4, q4, Tryz.f4, List.getElem?_toArray, List.getElem?_cons_succ, List.getElem?_cons_zero, Option.getD_some]
  go_simp
  intro h
  omega
set_option maxRecDepth 100000 in
set_option maxHeartbeats 4000000 in
/-- up to the slice -/
theorem mid4a : GoW Tryz.prog true AtRel DSil (fun g w => g = G ((base 4).at ⟨#[.slice a ds.length cap, t 1, t 2, t 3, .int .i64 (ds.length : Int), .slice (some ⟨E, 0, none⟩) (ds.length + 8) (ds.length + 8), .slice vR.a vR.n vR.c, t 7, t 8, t 9, t 10, t 11, t 12, t 13, t 14, t 15, t 16, t 17, t 18, t 19, t 20, t 21, t 22, t 23, t 24, t 25, t 26, t 27, t 28, t 29, t 30, t 31, t 32, t 33, t 34, t 35, t 36, t 37, t 38, t 39, t 40, t 41, t 42, t 43, t 44, t 45, t 46, t 47, t 48, t 49, t 50, t 51, t 52, t 53, t 54, t 55, t 56, t 57, t 58, t 59, t 60, t 61, t 62, t 63, t 64, t 65, .slice (some ⟨E, 0, none⟩) (ds.length + 8) (ds.length + 8), .int .i64 (ds.length : Int), t 68, t 69, t 70, t 71, t 72, t 73, t 74, t 75, t 76, t 77, t 78, t 79, t 80, t 81, t 82, t 83, t 84, t 85, t 86, t 87, t 88, t 89, t 90, t 91, t 92, t 93, t 94, t 95, t 96, t 97, t 98, t 99, t 100, t 101, t 102, t 103, t 104, t 105, t 106, t 107, t 108, t 109, t 110, t 111, t 112, t 113, t 114, t 115, t 116, t 117, t 118, t 119, t 120, t 121, t 122, t 123, t 124, t 125, t 126, t 127, t 128, t 129, t 130, t 131, t 132, t 133, t 134, t 135, t 136, t 137, t 138, t 139, t 140, t 141, t 142, t 143, t 144, t 145], []⟩ (.inRegion ops4 [2, 3, 4, 5, 6, 7, 8] :: [.code r4])) cs ∧ w.heap = h0) (fun w => w.heap = h0) 30
      (G ((base 4).at ⟨#[.slice a ds.length cap, t 1, t 2, t 3, .int .i64 (ds.length : Int), .slice (some ⟨E, 0, none⟩) (ds.length + 8) (ds.length + 8), .slice vR.a vR.n vR.c, t 7, t 8, t 9, t 10, t 11, t 12, t 13, t 14, t 15, t 16, t 17, t 18, t 19, t 20, t 21, t 22, t 23, t 24, t 25, t 26, t 27, t 28, t 29, t 30, t 31, t 32, t 33, t 34, t 35, t 36, t 37, t 38, t 39, t 40, t 41, t 42, t 43, t 44, t 45, t 46, t 47, t 48, t 49, t 50, t 51, t 52, t 53, t 54, t 55, t 56, t 57, t 58, t 59, t 60, t 61, t 62, t 63, t 64, t 65, t 66, t 67, t 68, t 69, t 70, t 71, t 72, t 73, t 74, t 75, t 76, t 77, t 78, t 79, t 80, t 81, t 82, t 83, t 84, t 85, t 86, t 87, t 88, t 89, t 90, t 91, t 92, t 93, t 94, t 95, t 96, t 97, t 98, t 99, t 100, t 101, t 102, t 103, t 104, t 105, t 106, t 107, t 108, t 109, t 110, t 111, t 112, t 113, t 114, t 115, t 116, t 117, t 118, t 119, t 120, t 121, t 122, t 123, t 124, t 125, t 126, t 127, t 128, t 129, t 130, t 131, t 132, t 133, t 134, t 135, t 136, t 137, t 138, t 139, t 140, t 141, t 142, t 143, t 144, t 145], []⟩ [.code q4]) cs) := by
  have E0 := envS h0
  obtain ⟨be, hbe⟩ : ∃ c, c = r4 := ⟨_, rfl⟩
  have hbe' := hbe
  simp only [r4, q4, Tryz.f4] at hbe'
  rw [← hbe]
  simp only [ops4, q4, Tryz.f4]
  rw [← hbe']
  clear hbe hbe'
  try walk_nrm
  repeat (first
    | refine gw_seq E0 ?_
    | refine gw_region_9 E0 ?_
    | (refine gw_opk E0 rfl rfl (by k_ne) (fun w hF K hK => ?_); go_simp; refine hK _ (by simp [go_sem, *]) ?_; clear hK K hF w; try w_num))
  exact gw_stop E0 (fun w hw => ⟨rfl, hw⟩)
set_option maxRecDepth 100000 in
set_option maxHeartbeats 4000000 in
/-- the call of New -/
theorem mid4b : GoW Tryz.prog true AtRel DSil (fun g w => g = G ((base 8).at ⟨#[.slice (some ⟨E, 0, none⟩) ds.length (ds.length + 8)] ++ Array.replicate 12 undef, []⟩ [.code (Tryz.f8.body.getD .skip)]) ((base 4).at ⟨#[.slice a ds.length cap, t 1, t 2, t 3, .int .i64 (ds.length : Int), .slice (some ⟨E, 0, none⟩) (ds.length + 8) (ds.length + 8), .slice vR.a vR.n vR.c, t 7, t 8, t 9, t 10, t 11, t 12, t 13, t 14, t 15, t 16, t 17, t 18, t 19, t 20, t 21, t 22, t 23, t 24, t 25, t 26, t 27, t 28, t 29, t 30, t 31, t 32, t 33, t 34, t 35, t 36, t 37, t 38, t 39, t 40, t 41, t 42, t 43, t 44, t 45, t 46, t 47, t 48, t 49, t 50, t 51, t 52, t 53, t 54, t 55, t 56, t 57, t 58, t 59, t 60, t 61, t 62, t 63, t 64, t 65, .slice (some ⟨E, 0, none⟩) (ds.length + 8) (ds.length + 8), .int .i64 (ds.length : Int), .slice (some ⟨E, 0, none⟩) ds.length (ds.length + 8), t 69, t 70, t 71, t 72, t 73, t 74, t 75, t 76, t 77, t 78, t 79, t 80, t 81, t 82, t 83, t 84, t 85, t 86, t 87, t 88, t 89, t 90, t 91, t 92, t 93, t 94, t 95, t 96, t 97, t 98, t 99, t 100, t 101, t 102, t 103, t 104, t 105, t 106, t 107, t 108, t 109, t 110, t 111, t 112, t 113, t 114, t 115, t 116, t 117, t 118, t 119, t 120, t 121, t 122, t 123, t 124, t 125, t 126, t 127, t 128, t 129, t 130, t 131, t 132, t 133, t 134, t 135, t 136, t 137, t 138, t 139, t 140, t 141, t 142, t 143, t 144, t 145], []⟩ (.inRegion ops4 [3, 4, 5, 6, 7, 8] :: [.code r4]) :: cs) ∧ w.heap = h0) (fun w => w.heap = h0) 30
      (G ((base 4).at ⟨#[.slice a ds.length cap, t 1, t 2, t 3, .int .i64 (ds.length : Int), .slice (some ⟨E, 0, none⟩) (ds.length + 8) (ds.length + 8), .slice vR.a vR.n vR.c, t 7, t 8, t 9, t 10, t 11, t 12, t 13, t 14, t 15, t 16, t 17, t 18, t 19, t 20, t 21, t 22, t 23, t 24, t 25, t 26, t 27, t 28, t 29, t 30, t 31, t 32, t 33, t 34, t 35, t 36, t 37, t 38, t 39, t 40, t 41, t 42, t 43, t 44, t 45, t 46, t 47, t 48, t 49, t 50, t 51, t 52, t 53, t 54, t 55, t 56, t 57, t 58, t 59, t 60, t 61, t 62, t 63, t 64, t 65, .slice (some ⟨E, 0, none⟩) (ds.length + 8) (ds.length + 8), .int .i64 (ds.length : Int), .slice (some ⟨E, 0, none⟩) ds.length (ds.length + 8), t 69, t 70, t 71, t 72, t 73, t 74, t 75, t 76, t 77, t 78, t 79, t 80, t 81, t 82, t 83, t 84, t 85, t 86, t 87, t 88, t 89, t 90, t 91, t 92, t 93, t 94, t 95, t 96, t 97, t 98, t 99, t 100, t 101, t 102, t 103, t 104, t 105, t 106, t 107, t 108, t 109, t 110, t 111, t 112, t 113, t 114, t 115, t 116, t 117, t 118, t 119, t 120, t 121, t 122, t 123, t 124, t 125, t 126, t 127, t 128, t 129, t 130, t 131, t 132, t 133, t 134, t 135, t 136, t 137, t 138, t 139, t 140, t 141, t 142, t 143, t 144, t 145], []⟩ (.inRegion ops4 [3, 4, 5, 6, 7, 8] :: [.code r4])) cs) := by
  have E0 := envS h0
  obtain ⟨be, hbe⟩ : ∃ c, c = r4 := ⟨_, rfl⟩
  obtain ⟨bc, hbc⟩ : ∃ c, c = Tryz.f8.body.getD .skip := ⟨_, rfl⟩
  rw [← hbe, ← hbc]
  clear hbe
  simp only [ops4, q4, Tryz.f4]
  try walk_nrm
  have hnm : (Tryz.f8.name == "runtime.NumGoroutine") = false := by kernel_rfl
  have hbody : Tryz.f8.body = some bc := by rw [hbc]; kernel_rfl
  refine gw_call E0 rfl rfl (by k_ne) rfl Tryz.func8 hnm hbody ?_
  rw [Tryz.ntmps8]
  clear hnm hbody hbc
  walk_nrm
  exact gw_stop E0 (fun w hw => ⟨rfl, hw⟩)
end
end Go.Mark
