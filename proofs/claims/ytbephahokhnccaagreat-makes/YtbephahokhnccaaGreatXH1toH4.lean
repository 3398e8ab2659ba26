/-
  From one lone world to the next, beside leavers.
-/
import Derived.Test.YtbephahokhnccaaGreatG10
import Derived.Test.YtbephahokhnccaaGreatD15
namespace Go.Mark
open Go.RowKit Go.Proofs Go.Lift Go.Conc
def IsMap : Obj → Prop
  | .map _ _ => True
  | _ => False
/-- what can be read in v reads the same in u -/
structure Tw (v u : World) : Prop where
  size : v.heap.size ≤ u.heap.size
  obj : ∀ (b : Nat) (o : Obj), v.heap[b]? = some o → IsCells o ∨ IsMap o → u.heap[b]? = some o
theorem Tw.refl (v : World) : Tw v v := ⟨Nat.le_refl _, fun _ _ h _ => h⟩
theorem Tw.trans {v u x : World} (h : Tw v u) (k : Tw u x) : Tw v x := ⟨Nat.le_trans h.size k.size, fun b o h1 h2 => k.obj b o (h.obj b o h1 h2) h2⟩
theorem tw_below {v u : World} (h : Below v.heap.size v u) : Tw v u := ⟨h.size, fun b _ h1 _ => (h.block b (Array.getElem?_eq_some_iff.1 h1).1).trans h1⟩
theorem Tw.cell {v u : World} (h : Tw v u) {a : Addr} {x : Value} (hc : v.cell? a = some x) : u.cell? a = some x := by
  unfold World.cell? at hc ⊢
  cases hb : v.heap[a.block]? with
  | none => rw [hb] at hc; cases hc
  | some o =>
    rw [hb] at hc
    cases o with
    | cells c e f => rw [h.obj a.block _ hb (.inl trivial)]; exact hc
    | _ => cases hc
theorem CellsAt.tw {v u : World} {b o : Nat} {l : List Value} (hc : CellsAt v b o l) (h : Tw v u) : CellsAt u b o l := fun j x hj => h.cell (hc j x hj)
theorem MapB.tw {κ : Type} {kf : κ → Value} {v u : World} {r : Nat} {l : List (κ × Value)} (hm : MapB kf v r l) (h : Tw v u) : MapB kf u r l := let ⟨es, c, h1, h2⟩ := hm; ⟨es, c, h.obj r _ h1 (.inr trivial), h2⟩
theorem LedAt.tw {v u : World} {pa : Nat} {d : AccD} (hl : LedAt v pa d) (h : Tw v u) : LedAt u pa d := by
  obtain ⟨mk, ms, hc, hM⟩ := hl.ex
  exact ⟨⟨mk, ms, hc.tw h, hM.tw h⟩, hl.key, hl.nd, hl.num⟩
theorem LedgerAt.tw {v u : World} {pl : Nat} {L : List (AccD × Nat)} (hl : LedgerAt v pl L) (h : Tw v u) : LedgerAt u pl L := by
  obtain ⟨ma, h1, h2⟩ := hl.ex
  exact ⟨⟨ma, h.cell h1, h2.tw h⟩, Nat.lt_of_lt_of_le hl.lt h.size, fun q hq => (hl.acc q hq).tw h, hl.nd, hl.rng, hl.num⟩
theorem Ins.tw {v u : World} {b : Nat} {ds : List (AccD × SV)} (hi : Ins v b ds) (h : Tw v u) : Ins u b ds :=
  ⟨fun i p hp => (hi.acc i p hp).tw h, fun p hp => let ⟨bs, c, h1, h2⟩ := hi.sl p hp; ⟨bs, c, h1, fun i q hq => (h2 i q hq).tw h⟩, hi.bal, hi.num, hi.key, hi.len⟩
theorem own_tw {v u : World} {base size n : Nat} {e : TypeId} {x : Value} {xs : List Value} (ho : v.ownsRow base e size x n xs) (h : Tw v u) : u.ownsRow base e size x n xs := by
  refine ⟨ho.1, ho.2.imp id ?_⟩
  rintro ⟨g, cap, cur, h1, h2, h3, h4⟩
  exact ⟨g, cap, cur, h1, h2, h.obj g _ h3 (.inl trivial), h4⟩
theorem fine_veil {D D' : Nat → Prop} {o : Obj} : Fine (veil D) o ↔ Fine (veil D') o := by cases o <;> exact Iff.rfl
theorem not_fine {D : Nat → Prop} {o : Obj} (h : ¬ Fine (veil D) o) : ¬ IsCells o ∧ ¬ IsMap o :=
  ⟨fun hc => by cases o <;> first | exact hc.elim | exact h trivial, fun hc => by cases o <;> first | exact hc.elim | exact h trivial⟩
/-- the dark blocks: rows from B on; below B objects that bear other code -/
def Dk (B : Nat) (D : Nat → Prop) (w : World) : Prop := ∀ b, D b → (B ≤ b ∧ ∃ c e, w.heap[b]? = some (.cells c e)) ∨ (b < B ∧ ∃ o, w.heap[b]? = some o ∧ ¬ Fine (veil D) o ∧ ¬ IsView o)
theorem dk_z {B : Nat} {D : Nat → Prop} {w : World} (h : Dk B D w) (b : Nat) (hb : D b) : (∃ c e, w.heap[b]? = some (.cells c e)) ∨ ∃ o, w.heap[b]? = some o ∧ ¬ Fine (veil D) o ∧ ¬ IsView o :=
  (h b hb).imp (·.2) (·.2)
/-- two looks at one block -/
theorem look_two {D : Nat → Prop} {z : Prop} {x y y' : Option Obj} (h : Look z x y) (h' : Look z x y') (hz : z → (∃ c e, x = some (.cells c e)) ∨ ∃ o, x = some o ∧ ¬ Fine (veil D) o ∧ ¬ IsView o) {o : Obj} (ho : y = some o) (hg : IsCells o ∨ IsMap o) : y' = some o := by
  cases h with
  | dark hd =>
    cases ho
    cases h' with
    | dark _ => rfl
    | shut _ hn => exact absurd trivial hn
    | view hv => exact hv.elim
    | same hs => exact absurd trivial ((hs _ rfl).2 hd)
  | shut hd hn =>
    cases ho
    rcases hg with hg | hg <;> exact hg.elim
  | view hv hb =>
    cases ho
    cases o <;> first | exact hb.elim | (rcases hg with hg | hg <;> exact hg.elim)
  | same hs =>
    subst ho
    have hno : ¬ z := fun hd => by
      rcases hz hd with ⟨c, e, hc⟩ | ⟨o', hc, hf, _⟩
      · cases hc
        exact (hs _ rfl).2 hd trivial
      · cases hc
        rcases hg with hg | hg
        · exact (not_fine hf).1 hg
        · exact (not_fine hf).2 hg
    cases h' with
    | dark hd => exact absurd hd hno
    | shut hd => exact absurd hd hno
    | view hv => exact absurd hv (hs _ rfl).1
    | same _ => rfl
/-- two lone worlds of one world -/
theorem tw_rel {B : Nat} {D : Nat → Prop} {w v u : World} (hk : Dk B D w) (h : Rel (veil D) w v) (h' : Rel (veil D) w u) : Tw v u :=
  ⟨by rw [h.size, h'.size]; exact Nat.le_refl _, fun b o h1 h2 => look_two (h.look b) (h'.look b) (dk_z hk b) h1 h2⟩
/-- a row that is not empty: up into the world -/
theorem rel_row {D : Nat → Prop} {w v : World} (h : Rel (veil D) w v) {b : Nat} {c : Array Value} {e : TypeId} {f : Nat × Nat} (hb : v.heap[b]? = some (.cells c e f)) (he : 0 < c.size) : w.heap[b]? = some (.cells c e f) := by
  have hl := h.look b
  rw [hb] at hl
  generalize hx : w.heap[b]? = x at hl
  cases hl with
  | dark hd => simp at he
  | view _ hbl => exact hbl.elim
  | same _ => rfl
section
open Go.Walk Go.Phase
end
end Go.Mark
/-
  ledger.New beside leavers (17).
-/
set_option linter.unusedSectionVars false
namespace Go.Mark
open Go.Conc Go.Walk Go.Phase Go.RowKit Go.Conc.Lib Go.ConcR.Gen Go.ConcN.Gen Go.Lift Go.Proofs
open Go.ConcN (WgLive Has RW DWs AtR0 PayAt)
open Go.ConcR (KK WgAt stA smA rd wr mk Payload)
noncomputable def ops17 : Array Oper := match Tryz.f17.body with
  | some (.seq _ (.seq (.region _ o _) _)) => o
  | _ => #[]
section
variable {h0 : Array Obj} {b n cap mb : Nat} {cs : List Frame}
set_option maxRecDepth 100000 in
set_option maxHeartbeats 4000000 in
/-- up to the call of findMarks -/
theorem enter17 : GoW Tryz.prog true AtRel DSil (fun g w => g = G ((base 25).at ⟨#[.slice (some ⟨b, 0, none⟩) n cap] ++ Array.replicate 21 undef, []⟩ [.code (Tryz.f25.body.getD .skip)]) ((base 17).at ⟨#[.slice (some ⟨b, 0, none⟩) n cap, undef, .pointer none, undef, undef, undef, undef, .slice (some ⟨b, 0, none⟩) n cap, undef, undef, undef, undef, undef, undef, undef, undef, undef, undef, undef, undef, undef, undef, undef, undef, undef, undef, undef, undef, undef, undef, undef, undef, undef, undef, undef, undef, undef, undef, undef, undef, undef, undef, undef, undef, undef, undef], []⟩ (.inRegion ops17 [1, 2] :: [.code c17]) :: cs) ∧ w.heap = h0) (fun w => w.heap = h0) 30
      (G ((base 17).at ⟨#[.slice (some ⟨b, 0, none⟩) n cap] ++ Array.replicate 45 undef, []⟩ [.code (Tryz.f17.body.getD .skip)]) cs) := by
  have E := envS h0
  obtain ⟨bd, hbd⟩ : ∃ c, c = c17 := ⟨_, rfl⟩
  have hbd' := hbd
  simp only [c17, Tryz.f17] at hbd'
  rw [← hbd]
  simp only [Tryz.f17, Option.getD_some]
  rw [← hbd']
  walk_nrm
  repeat (first
    | refine gw_seq E ?_
    | refine gw_region_end E ?_
    | refine gw_region_1 E ?_
    | refine gw_region_3 E ?_
    | (refine gw_opk E rfl rfl (by k_ne) (fun w hF K hK => ?_); go_simp; refine hK _ (by simp [go_sem, *]) ?_; clear hK K hF w; try w_num))
  refine gw_call E rfl rfl (by k_ne) rfl Tryz.func25 (by kernel_rfl) (c := Tryz.f25.body.getD .skip) rfl ?_
  walk_nrm
  exact gw_stop E (fun w hw => ⟨by rw [hbd]; rfl, hw⟩)
set_option maxRecDepth 100000 in
set_option maxHeartbeats 4000000 in
/-- behind it -/
theorem mid17 : GoW Tryz.prog true AtRel DSil (fun g w => g = G ((base 17).at ⟨#[.slice (some ⟨b, 0, none⟩) n cap, undef, .pointer none, sl mb n, undef, undef, undef, .slice (some ⟨b, 0, none⟩) n cap, sl mb n, undef, undef, undef, undef, undef, undef, undef, undef, undef, undef, undef, undef, undef, undef, undef, undef, undef, undef, undef, undef, undef, undef, undef, undef, undef, undef, undef, undef, undef, undef, undef, undef, undef, undef, undef, undef, undef], []⟩ [.code c17]) cs ∧ w.heap = h0) (fun w => w.heap = h0) 30
      (G ((base 17).at ⟨#[.slice (some ⟨b, 0, none⟩) n cap, undef, .pointer none, undef, undef, undef, undef, .slice (some ⟨b, 0, none⟩) n cap, sl mb n, undef, undef, undef, undef, undef, undef, undef, undef, undef, undef, undef, undef, undef, undef, undef, undef, undef, undef, undef, undef, undef, undef, undef, undef, undef, undef, undef, undef, undef, undef, undef, undef, undef, undef, undef, undef, undef], []⟩ (.inRegion ops17 [2] :: [.code c17])) cs) := by
  have E := envS h0
  obtain ⟨bd, hbd⟩ : ∃ c, c = c17 := ⟨_, rfl⟩
  rw [← hbd]
  simp only [ops17, Tryz.f17]
  refine gw_opk E rfl rfl (by k_ne) (fun w hF K hK => ?_) 
  go_simp
  refine hK _ (by simp [go_sem, *]) ?_
  clear hK K hF w
  refine gw_region_end E ?_
  exact gw_stop E (fun w hw => ⟨rfl, hw⟩)
end
theorem rel_up {D : Nat → Prop} {w v : World} (h : Rel (veil D) w v) {b : Nat} {c : Array Value} {e : TypeId} {f : Nat × Nat} (hb : w.heap[b]? = some (.cells c e f)) (hd : ¬ D b) : v.heap[b]? = some (.cells c e f) := by
  have hl := h.look b
  rw [hb] at hl
  generalize v.heap[b]? = x at hl
  cases hl with
  | dark hz => exact absurd hz hd
  | shut hz => exact absurd hz hd
  | view hv => exact hv.elim
  | same _ => rfl
theorem dk_v {B : Nat} {D : Nat → Prop} {w v : World} (hk : Dk B D w) (h : Rel (veil D) w v) (b : Nat) (hb : D b) : (B ≤ b ∧ ∃ e, v.heap[b]? = some (.cells #[] e)) ∨ (b < B ∧ v.heap[b]? = some (.coro none)) := by
  rcases hk b hb with ⟨h1, c, e, hc⟩ | ⟨h1, o, ho, hf, hv⟩
  · refine .inl ⟨h1, ?_⟩
    have hl := h.look b
    rw [hc] at hl
    generalize v.heap[b]? = x at hl
    cases hl with
    | dark hz => exact ⟨_, rfl⟩
    | shut _ hn => exact absurd trivial hn
    | view hv => exact hv.elim
    | same hs => exact absurd trivial ((hs _ rfl).2 hb)
  · refine .inr ⟨h1, ?_⟩
    have hl := h.look b
    rw [ho] at hl
    generalize hx : v.heap[b]? = x at hl
    cases hl with
    | dark hz => exact absurd trivial hf
    | shut => rfl
    | view hv' => exact absurd hv' hv
    | same hs => exact absurd (h.code b o hx) hf
/-- goroutine 0 has come from a world on to another: what is sure whatever it wrote -/
structure On0 (B : Nat) (D' : Nat → Prop) (w w' v' : World) : Prop where
  rel : Rel (veil D') w' v'
  dk : Dk B D' w'
  kw : ∀ b, b < B → w'.heap[b]? = w.heap[b]?
  os : w'.os = w.os ∧ w'.output = w.output
  up : w.heap.size ≤ w'.heap.size
/-- the same, and what could be read reads the same -/
structure OnTo (B : Nat) (Shun' : Loc → Prop) (D' : Nat → Prop) (w w' v v' : World) : Prop extends On0 B D' w w' v' where
  hid : Hides (veil D') Shun'
  tw : Tw v v'
theorem On0.trans {B : Nat} {D1 D2 : Nat → Prop} {w w1 w2 v1 v2 : World} (h : On0 B D1 w w1 v1) (k : On0 B D2 w1 w2 v2) : On0 B D2 w w2 v2 :=
  ⟨k.rel, k.dk, fun b hb => (k.kw b hb).trans (h.kw b hb), ⟨k.os.1.trans h.os.1, k.os.2.trans h.os.2⟩, Nat.le_trans h.up k.up⟩
theorem OnTo.trans {B : Nat} {S1 S2 : Loc → Prop} {D1 D2 : Nat → Prop} {w w1 w2 v v1 v2 : World} (h : OnTo B S1 D1 w w1 v v1) (k : OnTo B S2 D2 w1 w2 v1 v2) : OnTo B S2 D2 w w2 v v2 :=
  ⟨h.toOn0.trans k.toOn0, k.hid, h.tw.trans k.tw⟩
/-- a lone stretch -/
theorem on0_lone {B : Nat} {D : Nat → Prop} {w w' u v' : World} (hk : Dk B D w) (hu : Rel (veil D) w u) (hr : Rel (veil D) w' v') (hs : Stays w w' v') (hB : B ≤ w.heap.size) (hb : ∀ b, b < B → v'.heap[b]? = u.heap[b]?) (hz : ∀ (b : Nat) (e : TypeId), u.heap[b]? = some (.cells #[] e) → v'.heap[b]? = some (.cells #[] e)) (hsz : u.heap.size ≤ v'.heap.size) (ho : v'.os = u.os ∧ v'.output = u.output) : On0 B D w w' v' := by
  have kw : ∀ b, b < B → w'.heap[b]? = w.heap[b]? := fun b hlt => by
    have hnd : ∀ o, v'.heap[b]? = some o → ¬ Off o → ¬ D b := fun o hv hoff hd => by
      rcases dk_v hk hu b hd with ⟨h1, _⟩ | ⟨_, h1⟩
      · omega
      · rw [← hb b hlt, hv] at h1
        cases h1
        exact hoff (.inr rfl)
    cases hv : v'.heap[b]? with
    | none =>
      have := Array.getElem?_eq_none_iff.1 hv
      have := hu.size
      omega
    | some o =>
      by_cases hoff : Off o
      · exact hs b o hv hoff (by omega)
      · have hn := hnd o hv hoff
        have hl := hr.look b
        have hl' := hu.look b
        rw [← hb b hlt] at hl'
        rw [hv] at hl hl'
        generalize w'.heap[b]? = x at hl ⊢
        generalize w.heap[b]? = y at hl' ⊢
        cases hl with
        | dark hd => exact absurd hd hn
        | shut hd => exact absurd hd hn
        | view _ hbl => exact absurd (Or.inl (by cases o <;> first | exact hbl.elim | trivial)) hoff
        | same _ =>
          cases hl' with
          | dark hd => exact absurd hd hn
          | shut hd => exact absurd hd hn
          | view _ hbl => exact absurd (Or.inl (by cases o <;> first | exact hbl.elim | trivial)) hoff
          | same _ => rfl
  refine ⟨hr, fun b hd => ?_, kw, ⟨by rw [← hr.os, ho.1, hu.os], by rw [← hr.out, ho.2, hu.out]⟩, by rw [← hr.size, ← hu.size]; exact hsz⟩
  rcases hk b hd with ⟨h1, c, e, hc⟩ | ⟨h1, o, h2, h3, h4⟩
  · rcases dk_v hk hu b hd with ⟨_, e', he⟩ | ⟨h2, _⟩
    · refine .inl ⟨h1, ?_⟩
      have hl := hr.look b
      rw [hz b e' he] at hl
      generalize w'.heap[b]? = x at hl
      cases hl with
      | dark _ => exact ⟨_, _, rfl⟩
      | view _ hbl => exact hbl.elim
      | same hs => exact absurd trivial ((hs _ rfl).2 hd)
    · omega
  · exact .inr ⟨h1, o, (kw b h1).trans h2, h3, h4⟩
theorem onto_lone {B : Nat} {Shun : Loc → Prop} {D : Nat → Prop} {w w' v u v' : World} (hk : Dk B D w) (hrel : Rel (veil D) w v) (hhid : Hides (veil D) Shun) (hB : B ≤ w.heap.size) (hu : Rel (veil D) w u) (hr : Rel (veil D) w' v') (hs : Stays w w' v') (hb : Below u.heap.size u v') : OnTo B Shun D w w' v v' :=
  ⟨on0_lone hk hu hr hs hB (fun b hlt => hb.block b (by rw [hu.size]; omega)) (fun b e he => (hb.block b (Array.getElem?_eq_some_iff.1 he).1).trans he) hb.size ⟨hb.os, hb.output⟩, hhid, (tw_rel hk hrel hu).trans (tw_below hb)⟩
theorem onto_sil {B : Nat} {Shun : Loc → Prop} {D : Nat → Prop} {w w' v : World} (hk : Dk B D w) (hrel : Rel (veil D) w v) (hhid : Hides (veil D) Shun) (hh : w'.heap = w.heap) (ho : w'.os = w.os ∧ w'.output = w.output) : OnTo B Shun D w w' v v :=
  ⟨⟨⟨by rw [hh]; exact hrel.size, fun b hb => by rw [hh]; exact hrel.low b hb, fun b => by rw [hh]; exact hrel.look b, hrel.code, by rw [ho.1]; exact hrel.os, by rw [ho.2]; exact hrel.out⟩, fun b hb => by rw [hh]; exact hk b hb, fun b _ => by rw [hh], ho, by rw [hh]; exact Nat.le_refl _⟩, hhid, Tw.refl v⟩
end Go.Mark
/-
  ledger.New beside leavers (17): from its entry to its return.
-/
set_option linter.unusedSectionVars false
namespace Go.Mark
open Go.Conc Go.Walk Go.Phase Go.RowKit Go.Conc.Lib Go.ConcR.Gen Go.ConcN.Gen Go.Lift Go.Proofs
open Go.ConcN (WgLive Has RW DWs AtR0 PayAt)
open Go.ConcR (KK WgAt stA smA rd wr mk Payload)
theorem on_low {D : Nat → Prop} {Shun : Loc → Prop} {w v : World} (hr : Rel (veil D) w v) (hh : Hides (veil D) Shun) : ∀ l, Shun l → ∃ a : Addr, l = .cell a ∧ a.block < w.heap.size := fun l hl => by
  obtain ⟨a, e, hz⟩ := hh l hl
  exact ⟨a, e, hr.low _ hz⟩
theorem ok17 : okCode Tryz.prog c17 = true := by kernel_rfl
/-- the dark blocks behind one more findMarks -/
def D1 (D : Nat → Prop) (g : Nat) (b : Nat) : Prop := D b ∨ b = g
def S1 (Shun : Loc → Prop) (g : Nat) (l : Loc) : Prop := Shun l ∨ Go.ConcN.ShN g l
theorem hides1 {D : Nat → Prop} {Shun : Loc → Prop} {g : Nat} (h : Hides (veil D) Shun) : Hides (veil (D1 D g)) (S1 Shun g) := fun l hl => by
  rcases hl with hl | ⟨a, e, hb⟩
  · obtain ⟨a, e, hz⟩ := h l hl
    exact ⟨a, e, .inl hz⟩
  · exact ⟨a, e, .inr hb⟩
/-- behind findMarks: a lone world -/
theorem found_rel {B : Nat} {Shun : Loc → Prop} {D : Nat → Prop} {n : Nat} {code : Nat → ByteArray} {w v w' : World} (hB : B ≤ w.heap.size) (hr : Rel (veil D) w v) (hk : Dk B D w) (hhid : Hides (veil D) Shun) (hF : Found n code w w') :
    ∃ u, OnTo B (S1 Shun (w.heap.size + 2)) (D1 D (w.heap.size + 2)) w w' v u := by
  have hsz := hF.grown
  have hdk : Dk B (D1 D (w.heap.size + 2)) w' := fun b hb => by
    rcases hb with hb | rfl
    · rcases hk b hb with ⟨h1, c, e, hc⟩ | ⟨h1, o, h2, h3, h4⟩
      · exact .inl ⟨h1, c, e, (hF.frame b (hr.low b hb)).trans hc⟩
      · exact .inr ⟨h1, o, (hF.frame b (hr.low b hb)).trans h2, fun h => h3 (fine_veil.1 h), h4⟩
    · have hlt : w.heap.size + 2 < w'.heap.size := by omega
      obtain ⟨x, e, hx⟩ := hF.tidy (w.heap.size + 2) _ (by omega) (Array.getElem?_eq_getElem hlt)
      exact .inl ⟨by omega, x, e, by rw [Array.getElem?_eq_getElem hlt, hx]⟩
  obtain ⟨u, hu⟩ : ∃ u, Rel (veil (D1 D (w.heap.size + 2))) w' u := by
    refine exists_rel (fun b hb => ?_) (fun b o ho hv hf => ?_) (fun b c e f hb hc => ?_)
    · rcases hb with hb | rfl
      · have := hr.low b hb; omega
      · omega
    · by_cases hlt : b < w.heap.size
      · rw [hF.frame b hlt] at ho
        have hl := hr.look b
        rw [ho] at hl
        generalize hx : v.heap[b]? = x at hl
        cases hl with
        | dark hz => exact .inl hz
        | shut hz => exact .inl hz
        | view hv' => exact absurd hv' hv
        | same _ => exact absurd (fine_veil.1 (hr.code b o hx)) hf
      · obtain ⟨x, e, rfl⟩ := hF.tidy b o (by omega) ho
        exact absurd trivial hf
    · rcases hdk b hb with ⟨_, c', e', hc'⟩ | ⟨_, o, h2, h3, _⟩
      · rw [hc] at hc'
        cases hc'
        rfl
      · rw [hc] at h2
        cases h2
        exact absurd trivial h3
  refine ⟨u, ⟨hu, hdk, fun b hb => hF.frame b (by omega), hF.os, by omega⟩, hides1 hhid, ⟨by rw [hr.size, hu.size]; omega, fun b o h1 h2 => ?_⟩⟩
  have hb : b < w.heap.size := by rw [← hr.size]; exact (Array.getElem?_eq_some_iff.1 h1).1
  have hl := hr.look b
  have hl' := hu.look b
  rw [hF.frame b hb] at hl'
  have e : (veil (D1 D (w.heap.size + 2))) b = (veil D) b := by
    show (D b ∨ b = w.heap.size + 2) = D b
    exact propext ⟨fun h => h.elim id (fun h => by omega), .inl⟩
  rw [e] at hl'
  exact look_two hl hl' (dk_z hk b) h1 h2
theorem runs_sil {Shun : Loc → Prop} {B N : Nat} {S : Goroutine → World → Prop} {I : World → Prop} {n : Nat} {g : Goroutine} {w : World} {m : Machine} {t : Trace} (h : GoW Tryz.prog true AtRel DSil S I n g) (hI : I w) (hst : Stand Tryz.prog Shun B N g w m t) :
    Runs Tryz.prog m t fun m' t' => ∃ g' w', S g' w' ∧ (w'.os = w.os ∧ w'.output = w.output) ∧ Stand Tryz.prog Shun B N g' w' m' t' :=
  runs_os (D := DSil) (β := fun _ => B) (fun _ _ => rfl) (fun _ _ es h => ⟨Nat.le_refl _, fun e he => by rw [h.1] at he; simp at he⟩) (fun _ _ _ h => h.2) (h w hI) hst
theorem runs_will {Shun : Loc → Prop} {D : Nat → Prop} {N : Nat} {S : Goroutine → World → Prop} {g : Goroutine} {w : World} {m : Machine} {t : Trace} (hh : Hides (veil D) Shun) (h : Will Tryz.prog (DClean (veil D)) S g w) (hst : Stand Tryz.prog Shun w.heap.size N g w m t) :
    Runs Tryz.prog m t fun m' t' => ∃ g' w', S g' w' ∧ Stand Tryz.prog Shun w'.heap.size N g' w' m' t' :=
  will_runs (β := fun w => w.heap.size) (fun _ _ => rfl) (dclean_evX hh) h ⟨w.drawn, rfl⟩ hst
theorem bodyPost_mono {P : Program} {fn : Func} {R R' : Ending → World → Prop} (h : ∀ e w, R e w → R' e w) {e : Exit} {a : Act} {w : World} (hb : bodyPost P fn R e a w) : bodyPost P fn R' e a w := by
  cases e with
  | normal => exact ⟨hb.1, let ⟨v, h1, h2⟩ := hb.2; ⟨v, h1, h _ _ h2⟩⟩
  | ret => exact ⟨hb.1, let ⟨v, h1, h2⟩ := hb.2; ⟨v, h1, h _ _ h2⟩⟩
  | panic c => exact ⟨hb.1, h _ _ hb.2⟩
  | outgrown => exact h _ _ hb
  | _ => exact hb.elim
set_option maxRecDepth 100000 in
set_option maxHeartbeats 1000000 in
theorem new17_runs {B : Nat} {Shun : Loc → Prop} {D : Nat → Prop} {ds : List (AccD × SV)} {b cap o : Nat} {X : Array Value} {b₀ : Frame} {a₀ : Act} {ops₀ : Array Oper} {i₀ : Nat} {rest₀ : List Nat} {k₀ : List Item} {cs : List Frame} {w v : World} {m : Machine} {t : Trace}
    (hB : B ≤ w.heap.size) (hrel : Rel (veil D) w v) (hdk : Dk B D w) (hhid : Hides (veil D) Shun) (hrow : v.heap[b]? = some (.cells X 31)) (hX0 : 0 < X.size) (hX : ds.length * 8 ≤ X.size) (h1 : X.all (·.oneCell') = true) (hI : Ins v b ds) (hso : Sound (ds.map (·.1))) (ho : o + 64 < 2147483647)
    (hb₀ : b₀.kind = .normal) (ha₀ : a₀.defers = []) (ho₀ : okOps Tryz.prog ops₀ = true) (hk₀ : ∀ x ∈ k₀, okItem Tryz.prog x = true)
    (hst : Stand Tryz.prog Shun w.heap.size (o + 1) (G ((base 17).at ⟨#[.slice (some ⟨b, 0, none⟩) ds.length cap] ++ Array.replicate 45 undef, []⟩ [.code (Tryz.f17.body.getD .skip)]) (b₀.at a₀ (.inRegion ops₀ (i₀ :: rest₀) :: k₀) :: cs)) w m t) :
    Runs Tryz.prog m t fun m' t' => ∃ w' v' pl L, OnTo B (S1 Shun (w.heap.size + 2)) (D1 D (w.heap.size + 2)) w w' v v' ∧ LedgerAt v' pl L ∧ L.map (·.1) = ds.map (fun p => kp p.1) ∧ v.heap.size ≤ pl ∧
      Stand Tryz.prog (S1 Shun (w.heap.size + 2)) w'.heap.size (o + ds.length + 1) (G (after b₀ a₀ ops₀ i₀ rest₀ k₀ (.pointer (some ⟨pl, 0, none⟩))) cs) w' m' t' := by
  have hnum : ds.length ≤ 64 := by simpa using hso.1
  have hwrow := rel_row hrel hrow hX0
  have hnb : ¬ D b := fun hd => by
    rcases dk_v hdk hrel b hd with ⟨_, e, he⟩ | ⟨_, he⟩
    · rw [hrow] at he
      cases he
      simp at hX0
    · rw [hrow] at he
      cases he
  obtain ⟨code, hcode⟩ : ∃ code : Nat → ByteArray, code = fun i => ((ds[i]?).map (·.1.code)).getD ByteArray.empty := ⟨_, rfl⟩
  have hcat : ∀ i (hi : i < ds.length), code i = ds[i].1.code := fun i hi => by rw [hcode]; simp [hi]
  have hA : Acc0 Shun b ds.length X code w := by
    refine ⟨hwrow, hX, h1, fun i hi => ?_, fun i hi => ?_, by omega, fun a ha hS => ?_, on_low hrel hhid⟩
    · have := (hI.acc i _ (List.getElem?_eq_getElem hi)) 6 _ rfl
      rw [Nat.zero_add, cell_of_row v b _ X 31 (0, 0) hrow] at this
      rw [this, hcat i hi]
    · rw [hcat i hi]
      have := (hso.2.1 _ (List.mem_map_of_mem (List.getElem_mem hi))).2.2.2.2.1
      omega
    · obtain ⟨a', e, hz⟩ := hhid _ hS
      cases e
      exact hnb (ha ▸ hz)
  -- up to the call
  refine (runs_sil (enter17 (h0 := w.heap)) rfl hst).then fun m1 t1 h2 => ?_
  obtain ⟨a1, w1, ⟨rfl, hh1⟩, ho1, hst1⟩ := h2
  have hsz1 : w1.heap.size = w.heap.size := by rw [hh1]
  have hA1 : Acc0 Shun b ds.length X code w1 := ⟨by rw [hh1]; exact hA.row, hA.size, hA.one, hA.cod, hA.short, hA.n31, hA.sh, fun l hl => by rw [hh1]; exact hA.low l hl⟩
  rw [← hsz1] at hst1
  refine (findMarks_runs hA1 (by omega) hst1).then fun m2 t2 h3 => ?_
  obtain ⟨w2, hF, hst2⟩ := h3
  have hact : (Act.put ⟨#[.slice (some ⟨b, 0, none⟩) ds.length cap, undef, .pointer none, undef, undef, undef, undef, .slice (some ⟨b, 0, none⟩) ds.length cap, undef, undef, undef, undef, undef, undef, undef, undef, undef, undef, undef, undef, undef, undef, undef, undef, undef, undef, undef, undef, undef, undef, undef, undef, undef, undef, undef, undef, undef, undef, undef, undef, undef, undef, undef, undef, undef, undef], []⟩ ((ops17[1]?).bind (·.dst)) (sl w1.heap.size ds.length)) = ⟨#[.slice (some ⟨b, 0, none⟩) ds.length cap, undef, .pointer none, undef, undef, undef, undef, .slice (some ⟨b, 0, none⟩) ds.length cap, sl w1.heap.size ds.length, undef, undef, undef, undef, undef, undef, undef, undef, undef, undef, undef, undef, undef, undef, undef, undef, undef, undef, undef, undef, undef, undef, undef, undef, undef, undef, undef, undef, undef, undef, undef, undef, undef, undef, undef, undef, undef], []⟩ := rfl
  rw [hact] at hst2
  clear hact
  have honF := onto_sil (w' := w1) hdk hrel hhid hh1 ho1
  obtain ⟨u2, hon2⟩ := found_rel (by rw [hsz1]; exact hB) honF.rel honF.dk hhid hF
  rw [hsz1] at hon2
  refine (runs_sil (mid17 (h0 := w2.heap)) rfl hst2).then fun m3 t3 h4 => ?_
  obtain ⟨a3, w3, ⟨rfl, hh3⟩, ho3, hst3⟩ := h4
  have hsz3 : w3.heap.size = w2.heap.size := by rw [hh3]
  have hon3 := (honF.trans hon2).trans (onto_sil (w' := w3) hon2.dk hon2.rel hon2.hid hh3 ho3)
  have hgsz := hF.grown
  -- the lone walk of the rest
  have hwill := lift_rest (D := D1 D (w.heap.size + 2)) (f := 17) (fn := Tryz.f17) (c := c17) (b := base 17) (b₀ := b₀) (a₀ := a₀) (ops₀ := ops₀) (i₀ := i₀) (rest₀ := rest₀) (k₀ := k₀) (cw := cs) (w := w3)
    (Ψ := fun val v' => ∃ u, Rel (veil (D1 D (w.heap.size + 2))) w3 u ∧ ∃ pl L, val = .pointer (some ⟨pl, 0, none⟩) ∧ New17 u v' ds pl L)
    rfl TryQ.func17 rfl rfl ok17 hb₀ ha₀ ho₀ hk₀ ⟨_, hon3.rel⟩ (a := ⟨#[.slice (some ⟨b, 0, none⟩) ds.length cap, undef, .pointer none, sl w1.heap.size ds.length, undef, undef, undef, .slice (some ⟨b, 0, none⟩) ds.length cap, sl w1.heap.size ds.length, undef, undef, undef, undef, undef, undef, undef, undef, undef, undef, undef, undef, undef, undef, undef, undef, undef, undef, undef, undef, undef, undef, undef, undef, undef, undef, undef, undef, undef, undef, undef, undef, undef, undef, undef, undef, undef], []⟩) (fun u hu => ?_)
  · -- the will is done
    rw [hsz1] at hst3
    have hst4 : Stand Tryz.prog (S1 Shun (w.heap.size + 2)) w3.heap.size (o + ds.length + 1) (G ((base 17).at ⟨#[.slice (some ⟨b, 0, none⟩) ds.length cap, undef, .pointer none, sl w1.heap.size ds.length, undef, undef, undef, .slice (some ⟨b, 0, none⟩) ds.length cap, sl w1.heap.size ds.length, undef, undef, undef, undef, undef, undef, undef, undef, undef, undef, undef, undef, undef, undef, undef, undef, undef, undef, undef, undef, undef, undef, undef, undef, undef, undef, undef, undef, undef, undef, undef, undef, undef, undef, undef, undef, undef], []⟩ [.code c17]) (b₀.at a₀ (.inRegion ops₀ (i₀ :: rest₀) :: k₀) :: cs)) w3 m3 t3 := by rw [hsz3, hsz1]; exact hst3
    refine (runs_will hon3.hid hwill hst4).mono fun m5 t5 h5 => ?_
    obtain ⟨g5, w5, ⟨val, v5, rfl, hr5, hs5, u, hu, pl, L, rfl, hN⟩, hst5⟩ := h5
    have hon5 := onto_lone hon3.dk hon3.rel hon3.hid (Nat.le_trans hB hon3.up) hu hr5 hs5 hN.below
    refine ⟨w5, v5, pl, L, hon3.trans hon5, hN.led, hN.lst, ?_, hst5⟩
    exact Nat.le_trans (hon3.tw.trans (tw_rel hon3.dk hon3.rel hu)).size hN.lo
  · have hIu : Ins u b ds := hI.tw (hon3.tw.trans (tw_rel hon3.dk hon3.rel hu))
    have hng : ¬ D1 D (w.heap.size + 2) w1.heap.size := fun h => by
      rcases h with h | h
      · have := hrel.low _ h; omega
      · omega
    obtain ⟨cs3, hp1, hp2⟩ := hF.pay
    rw [← hh3] at hp1
    have hpu := rel_up hu hp1 hng
    have hmk : ∀ i, i < ds.length → ∃ mk : SV, u.cell? ⟨w1.heap.size, i, none⟩ = some (.slice mk.a mk.n mk.c) := fun i hi => by
      obtain ⟨bb, _, _, hc⟩ := hF.cell i hi
      rw [cell_of_row w2 _ i cs3 90 (0, 0) (by rw [← hh3]; exact hp1)] at hc
      exact ⟨⟨some ⟨bb, 0, none⟩, _, _⟩, (cell_of_row u _ i cs3 90 (0, 0) hpu).trans hc⟩
    have hwp := new17 ds b cap w1.heap.size ds.length u hIu hmk (by rw [hu.size]; omega) hso
    refine Code.wp_mono ?_ hwp
    intro e a' v' hbp
    exact bodyPost_mono (fun e v' ⟨val, h1, h2⟩ => ⟨val, h1, u, hu, h2⟩) hbp
end Go.Mark
/-
  purser.New beside leavers (8).
-/
set_option linter.unusedSectionVars false
namespace Go.Mark
open Go.Conc Go.Walk Go.Phase Go.RowKit Go.Conc.Lib Go.ConcR.Gen Go.ConcN.Gen Go.Lift Go.Proofs
open Go.ConcN (WgLive Has RW DWs AtR0 PayAt)
open Go.ConcR (KK WgAt stA smA rd wr mk Payload)
/-- the rest of a region, the rest of a function's code, and the return -/
theorem lift_rest_ops {D : Nat → Prop} {f : FuncId} {fn : Func} {c : Code} {ops : Array Oper} {l : List Nat} {b b₀ : Frame} {a a₀ : Act} {ops₀ : Array Oper} {i₀ : Nat} {rest₀ : List Nat} {k₀ : List Item} {cw : List Frame} {w : World} {Ψ : Value → World → Prop} (hbf : b.fn = f) (hf : TryQ.prog.funcs[f]? = some fn) (hb : b.kind = .normal) (ha : a.defers = []) (ho : okOps Tryz.prog ops = true) (hc : okCode Tryz.prog c = true)
    (hb₀ : b₀.kind = .normal) (ha₀ : a₀.defers = []) (ho₀ : okOps Tryz.prog ops₀ = true) (hk₀ : ∀ x ∈ k₀, okItem Tryz.prog x = true)
    (hex : ∃ v, Rel (veil D) w v) (hwp : ∀ v, Rel (veil D) w v → wpOps TryQ.prog ops (fun e a' v' => e = .normal ∧ c.wp TryQ.prog (bodyPost TryQ.prog fn fun e v' => ∃ val, e = .returned val ∧ Ψ val v') a' v') l a v) :
    Will Tryz.prog (DClean (veil D)) (fun g w' => ∃ val v', g = G (after b₀ a₀ ops₀ i₀ rest₀ k₀ val) cw ∧ Rel (veil D) w' v' ∧ Stays w w' v' ∧ Ψ val v') (G (b.at a (.inRegion ops l :: [.code c])) (b₀.at a₀ (.inRegion ops₀ (i₀ :: rest₀) :: k₀) :: cw)) w := by
  have tc : ∀ a', a'.defers = [] → ∀ l, TameF Tryz.prog (b₀.at a' (.inRegion ops₀ l :: k₀)) := fun a' ha' l => tame_at hb₀ ha' (fun x hx => by rcases List.mem_cons.1 hx with rfl | hx; exact ho₀; exact hk₀ x hx)
  refine will_mono ?_ (lift (fair D) (cw := cw) (S := fun fr frs v => ∃ val, fr = after b₀ a₀ ops₀ i₀ rest₀ k₀ val ∧ frs = [] ∧ Ψ val v) (fr := b.at a (.inRegion ops l :: [.code c])) (frs := [b₀.at a₀ (.inRegion ops₀ (i₀ :: rest₀) :: k₀)]) (w := w)
    (tame_at hb ha (fun x hx => by rcases List.mem_cons.1 hx with rfl | hx; exact ho; rw [List.mem_singleton.1 hx]; exact hc)) (fun f hf => by rw [List.mem_singleton.1 hf]; exact tc a₀ ha₀ _) hex (fun v hv => ?_))
  · rintro g w' ⟨fr, frs, v, rfl, hr, hs, val, rfl, rfl, hΨ⟩
    exact ⟨val, v, rfl, hr, hs, hΨ⟩
  · obtain ⟨e0, a1, v1, ⟨rfl, hwp1⟩, hA0⟩ := wp_ops _ _ _ (hwp v hv) b [.code c] (b₀.at a₀ (.inRegion ops₀ (i₀ :: rest₀) :: k₀) :: [trap FQ.size])
    obtain ⟨e, a', v', hQ, hA⟩ := hwp1 b [] (b₀.at a₀ (.inRegion ops₀ (i₀ :: rest₀) :: k₀) :: [trap FQ.size])
    have hst : Steps TryQ.prog (lone (b.at a (.inRegion ops l :: [.code c])) (b₀.at a₀ (.inRegion ops₀ (i₀ :: rest₀) :: k₀) :: [trap FQ.size]) v) (lone (b.at a1 [.code c]) (b₀.at a₀ (.inRegion ops₀ (i₀ :: rest₀) :: k₀) :: [trap FQ.size]) v1) := hA0
    have fin : ∀ val, (b₀.at a₀ (.inRegion ops₀ (i₀ :: rest₀) :: k₀)).finish val = after b₀ a₀ ops₀ i₀ rest₀ k₀ val := fun val => Frame.finish_at _ _ _ _ _ _ _
    have key : ∀ val, (∃ todo, Steps TryQ.prog (lone (b.at a1 [.code c]) (b₀.at a₀ (.inRegion ops₀ (i₀ :: rest₀) :: k₀) :: [trap FQ.size]) v1) (lone { b.at a' todo with mode := .returning } (b₀.at a₀ (.inRegion ops₀ (i₀ :: rest₀) :: k₀) :: [trap FQ.size]) v')) → a'.defers = [] → (results fn a'.tmps).run TryQ.prog v' = .ok val v' → Ψ val v' →
        ∃ n fr' frs' v'', runN (strip Tryz.prog FQ) n (lone (b.at a (.inRegion ops l :: [.code c])) ([b₀.at a₀ (.inRegion ops₀ (i₀ :: rest₀) :: k₀)] ++ [trap FQ.size]) v) = .next (lone fr' (frs' ++ [trap FQ.size]) v'') ∧ TameF Tryz.prog fr' ∧ ∃ val, fr' = after b₀ a₀ ops₀ i₀ rest₀ k₀ val ∧ frs' = [] ∧ Ψ val v'' := by
      rintro val ⟨todo, hs⟩ hd hr hΨ
      obtain ⟨n, hn⟩ := (hst.trans hs).trans (leave_steps (todo := todo) hbf hb hf hd hr)
      rw [fin, TryQ.prog_eq] at hn
      exact ⟨n, _, [], v', hn, tc _ (put_nil _ _ _ ha₀) _, val, rfl, rfl, hΨ⟩
    cases e with
    | normal =>
      obtain ⟨hd, x, hr, val, hv', hΨ⟩ := hQ
      cases hv'
      exact key _ ⟨[], hA.trans (.one step_end)⟩ hd hr hΨ
    | ret =>
      obtain ⟨hd, x, hr, val, hv', hΨ⟩ := hQ
      cases hv'
      exact key _ hA hd hr hΨ
    | panic ch => obtain ⟨_, _, h, _⟩ := hQ; cases h
    | outgrown => obtain ⟨_, h, _⟩ := hQ; cases h
    | _ => exact hQ.elim
noncomputable def c8 : Code := match Tryz.f8.body with
  | some (.seq _ (.seq c _)) => c
  | _ => .skip
noncomputable def d8 : Code := match Tryz.f8.body with
  | some (.seq _ (.seq _ c)) => c
  | _ => .skip
noncomputable def e8 : Code := match d8 with
  | .seq _ c => c
  | _ => .skip
noncomputable def ops8 : Array Oper := match d8 with
  | .seq (.region _ o _) _ => o
  | _ => #[]
theorem okc8 : okCode Tryz.prog c8 = true := by kernel_rfl
theorem okd8 : okItem Tryz.prog (.code d8) = true := by kernel_rfl
theorem oke8 : okCode Tryz.prog e8 = true := by kernel_rfl
theorem oko8 : okOps Tryz.prog ops8 = true := by kernel_rfl
section
variable {h0 : Array Obj} {b n cap : Nat} {cs : List Frame}
set_option maxRecDepth 100000 in
set_option maxHeartbeats 4000000 in
theorem enter8 : GoW Tryz.prog true AtRel DSil (fun g w => g = G ((base 8).at ⟨#[.slice (some ⟨b, 0, none⟩) n cap, undef, .pointer none, .nilIface, undef, undef, undef, undef, undef, undef, undef, undef, undef], []⟩ [.code c8, .code d8]) cs ∧ w.heap = h0) (fun w => w.heap = h0) 30
      (G ((base 8).at ⟨#[.slice (some ⟨b, 0, none⟩) n cap] ++ Array.replicate 12 undef, []⟩ [.code (Tryz.f8.body.getD .skip)]) cs) := by
  have E := envS h0
  obtain ⟨bd, hbd⟩ : ∃ c, c = c8 := ⟨_, rfl⟩
  have hbd' := hbd
  obtain ⟨be, hbe⟩ : ∃ c, c = d8 := ⟨_, rfl⟩
  have hbe' := hbe
  simp only [c8, Tryz.f8] at hbd'
  simp only [d8, Tryz.f8] at hbe'
  rw [← hbd, ← hbe]
  simp only [Tryz.f8, Option.getD_some]
  rw [← hbd', ← hbe']
  walk_nrm
  repeat (first
    | refine gw_seq E ?_
    | refine gw_region_end E ?_
    | refine gw_region_2 E ?_
    | (refine gw_opk E rfl rfl (by k_ne) (fun w hF K hK => ?_); go_simp; refine hK _ (by simp [go_sem, *]) ?_; clear hK K hF w; try w_num))
  exact gw_stop E (fun w hw => ⟨rfl, hw⟩)
set_option maxRecDepth 100000 in
set_option maxHeartbeats 4000000 in
theorem mid8 : GoW Tryz.prog true AtRel DSil (fun g w => g = G ((base 17).at ⟨#[.slice (some ⟨b, 0, none⟩) n cap] ++ Array.replicate 45 undef, []⟩ [.code (Tryz.f17.body.getD .skip)]) ((base 8).at ⟨#[.slice (some ⟨b, 0, none⟩) n cap, undef, .pointer none, .nilIface, .slice (some ⟨b, 0, none⟩) n cap, .bool true, .bool false, undef, undef, .slice (some ⟨b, 0, none⟩) n cap, undef, undef, undef], []⟩ (.inRegion ops8 [1, 2, 3, 4, 5] :: [.code e8]) :: cs) ∧ w.heap = h0) (fun w => w.heap = h0) 30
      (G ((base 8).at ⟨#[.slice (some ⟨b, 0, none⟩) n cap, undef, .pointer none, .nilIface, .slice (some ⟨b, 0, none⟩) n cap, .bool true, .bool false, undef, undef, undef, undef, undef, undef], []⟩ [.code d8]) cs) := by
  have E := envS h0
  obtain ⟨be, hbe⟩ : ∃ c, c = e8 := ⟨_, rfl⟩
  have hbe' := hbe
  simp only [e8, d8, Tryz.f8] at hbe'
  obtain ⟨bc, hbc⟩ : ∃ c, c = Tryz.f17.body.getD .skip := ⟨_, rfl⟩
  rw [← hbe, ← hbc]
  simp only [ops8, d8, Tryz.f8]
  rw [← hbe']
  walk_nrm
  repeat (first
    | refine gw_seq E ?_
    | refine gw_region_6 E ?_
    | (refine gw_opk E rfl rfl (by k_ne) (fun w hF K hK => ?_); go_simp; refine hK _ (by simp [go_sem, *]) ?_; clear hK K hF w; try w_num))
  have hnm : (Tryz.f17.name == "runtime.NumGoroutine") = false := by kernel_rfl
  have hbody : Tryz.f17.body = some bc := by rw [hbc]; kernel_rfl
  refine gw_call E rfl rfl (by k_ne) rfl Tryz.func17 hnm hbody ?_
  rw [Tryz.ntmps17]
  clear hnm hbody hbc hbe hbe'
  walk_nrm
  exact gw_stop E (fun w hw => ⟨rfl, hw⟩)
end
end Go.Mark
