import Derived.Test.YtbephahokhnccaaGreatDoorXD15toH2
set_option linter.unusedSectionVars false
set_option maxRecDepth 100000
set_option maxHeartbeats 1000000
namespace Go.Mark
open Go.Conc Go.Walk Go.Phase Go.RowKit Go.Conc.Lib Go.ConcR.Gen Go.ConcN.Gen Go.Lift Go.Proofs
open Go.ConcN (WgLive Has RW DWs AtR0 PayAt)
open Go.ConcR (KK WgAt stA smA rd wr mk Payload)
variable [BaseB]
theorem on_low {D : Nat -> Prop} {Shun : Loc -> Prop} {w v : World} (hr : Rel (veil D) w v) (hh : Hides (veil D) Shun) : ∀ l, Shun l -> ∃ a : Addr, l = .cell a /\ a.block < w.heap.size := fun l hl => by
 obtain ⟨a, e, hz⟩ := hh l hl
 exact ⟨a, e, hr.low _ hz⟩
theorem ok17 : okCode Tryz.prog c17 = true := by kernel_rfl
def D1 (D : Nat -> Prop) (g : Nat) (b : Nat) : Prop := D b \/ b = g
def S1 (Shun : Loc -> Prop) (g : Nat) (l : Loc) : Prop := Shun l \/ Go.ConcN.ShN g l
theorem hides1 {D : Nat -> Prop} {Shun : Loc -> Prop} {g : Nat} (h : Hides (veil D) Shun) : Hides (veil (D1 D g)) (S1 Shun g) := fun l hl => by
 rcases hl with hl | ⟨a, e, hb⟩
 ·obtain ⟨a, e, hz⟩ := h l hl
  exact ⟨a, e, .inl hz⟩
 ·exact ⟨a, e, .inr hb⟩
theorem found_rel {B : Nat} {Shun : Loc -> Prop} {D : Nat -> Prop} {n : Nat} {code : Nat -> ByteArray} {w v w' : World} (hB : B <= w.heap.size) (hr : Rel (veil D) w v) (hk : Dk B D w) (hhid : Hides (veil D) Shun) (hF : Found n code w w') :
  ∃ u, OnTo B (S1 Shun (w.heap.size + 2)) (D1 D (w.heap.size + 2)) w w' v u := by
 have hsz := hF.grown
 have hdk : Dk B (D1 D (w.heap.size + 2)) w' := fun b hb => by
  rcases hb with hb | rfl
  ·rcases hk b hb with ⟨h1, c, e, hc⟩ | ⟨h1, o, h2, h3, h4⟩
   ·exact .inl ⟨h1, c, e, (hF.frame b (hr.low b hb)).trans hc⟩
   ·exact .inr ⟨h1, o, (hF.frame b (hr.low b hb)).trans h2, fun h => h3 (fine_veil.1 h), h4⟩
  ·have hlt : w.heap.size + 2 < w'.heap.size := by omega
   obtain ⟨x, e, hx⟩ := hF.tidy (w.heap.size + 2) _ (by omega) (Array.getElem?_eq_getElem hlt)
   exact .inl ⟨by omega, x, e, by rw [Array.getElem?_eq_getElem hlt, hx]⟩
 obtain ⟨u, hu⟩ : ∃ u, Rel (veil (D1 D (w.heap.size + 2))) w' u := by
  refine exists_rel (fun b hb => ?_) (fun b o ho hv hf => ?_) (fun b c e f hb hc => ?_)
  ·rcases hb with hb | rfl
   ·have := hr.low b hb; omega
   ·omega
  ·by_cases hlt : b < w.heap.size
   ·rw [hF.frame b hlt] at ho
    have hl := hr.look b
    rw [ho] at hl
    generalize hx : v.heap[b]? = x at hl
    cases hl with
    | dark hz => exact .inl hz
    | shut hz => exact .inl hz
    | view hv' => exact absurd hv' hv
    | same _ => exact absurd (fine_veil.1 (hr.code b o hx)) hf
   ·obtain ⟨x, e, rfl⟩ := hF.tidy b o (by omega) ho
    exact absurd trivial hf
  ·rcases hdk b hb with ⟨_, c', e', hc'⟩ | ⟨_, o, h2, h3, _⟩
   ·rw [hc] at hc'
    cases hc'
    rfl
   ·rw [hc] at h2
    cases h2
    exact absurd trivial h3
 refine ⟨u, ⟨hu, hdk, fun b hb => hF.frame b (by omega), hF.os, by omega⟩, hides1 hhid, ⟨by rw [hr.size, hu.size]; omega, fun b o h1 h2 => ?_⟩⟩
 have hb : b < w.heap.size := by rw [<- hr.size]; exact (Array.getElem?_eq_some_iff.1 h1).1
 have hl := hr.look b
 have hl' := hu.look b
 rw [hF.frame b hb] at hl'
 have e : (veil (D1 D (w.heap.size + 2))) b = (veil D) b := by
  show (D b \/ b = w.heap.size + 2) = D b
  exact propext ⟨fun h => h.elim id (fun h => by omega), .inl⟩
 rw [e] at hl'
 exact look_two hl hl' (dk_z hk b) h1 h2
theorem runs_sil {Shun : Loc -> Prop} {B N : Nat} {S : Goroutine -> World -> Prop} {I : World -> Prop} {n : Nat} {g : Goroutine} {w : World} {m : Machine} {t : Trace} (h : GoW Tryz.prog true AtRel DSil S I n g) (hI : I w) (hst : Stand Tryz.prog Shun B N g w m t) :
  Runs Tryz.prog m t fun m' t' => ∃ g' w', S g' w' /\ (w'.os = w.os /\ w'.output = w.output) /\ Stand Tryz.prog Shun B N g' w' m' t' :=
 runs_os (D := DSil) (β := fun _ => B) (fun _ _ => rfl) (fun _ _ es h => ⟨Nat.le_refl _, fun e he => by rw [h.1] at he; simp at he⟩) (fun _ _ _ h => h.2) (h w hI) hst
theorem runs_will {Shun : Loc -> Prop} {D : Nat -> Prop} {N : Nat} {S : Goroutine -> World -> Prop} {g : Goroutine} {w : World} {m : Machine} {t : Trace} (hh : Hides (veil D) Shun) (h : Will Tryz.prog (DClean (veil D)) S g w) (hst : Stand Tryz.prog Shun w.heap.size N g w m t) :
  Runs Tryz.prog m t fun m' t' => ∃ g' w', S g' w' /\ Stand Tryz.prog Shun w'.heap.size N g' w' m' t' :=
 will_runs (β := fun w => w.heap.size) (fun _ _ => rfl) (dclean_evX hh) h ⟨w.drawn, rfl⟩ hst
theorem bodyPost_mono {P : Program} {fn : Func} {R R' : Ending -> World -> Prop} (h : ∀ e w, R e w -> R' e w) {e : Exit} {a : Act} {w : World} (hb : bodyPost P fn R e a w) : bodyPost P fn R' e a w := by
 cases e with
 | normal => exact ⟨hb.1, let ⟨v, h1, h2⟩ := hb.2; ⟨v, h1, h _ _ h2⟩⟩
 | ret => exact ⟨hb.1, let ⟨v, h1, h2⟩ := hb.2; ⟨v, h1, h _ _ h2⟩⟩
 | panic c => exact ⟨hb.1, h _ _ hb.2⟩
 | outgrown => exact h _ _ hb
 | _ => exact hb.elim
theorem new17_runs {B : Nat} {Shun : Loc -> Prop} {D : Nat -> Prop} {ds : List (AccD × SV)} {b cap o : Nat} {X : Array Value} {b₀ : Frame} {a₀ : Act} {ops₀ : Array Oper} {i₀ : Nat} {rest₀ : List Nat} {k₀ : List Item} {cs : List Frame} {w v : World} {m : Machine} {t : Trace}
  (hB : B <= w.heap.size) (hb0 : BaseB.b0 <= v.heap.size) (hrel : Rel (veil D) w v) (hdk : Dk B D w) (hhid : Hides (veil D) Shun) (hrow : v.heap[b]? = some (.cells X 52)) (hX0 : 0 < X.size) (hX : ds.length * 8 <= X.size) (h1 : X.all (·.oneCell') = true) (hI : InR v (some ⟨b, 0, none⟩) ds) (hso : Sound (ds.map (·.1))) (ho : o + 64 < 2147483647)
  (hb₀ : b₀.kind = .normal) (ha₀ : a₀.defers = []) (ho₀ : okOps Tryz.prog ops₀ = true) (hk₀ : ∀ x ∈ k₀, okItem Tryz.prog x = true)
  (hst : Stand Tryz.prog Shun w.heap.size (o + 1) (G ((base 35).at ⟨#[.slice (some ⟨b, 0, none⟩) ds.length cap] ++ Array.replicate 45 undef, []⟩ [.code (Tryz.f35.body.getD .skip)]) (b₀.at a₀ (.inRegion ops₀ (i₀ :: rest₀) :: k₀) :: cs)) w m t) :
  Runs Tryz.prog m t fun m' t' => ∃ w' v' pl L, OnTo B (S1 Shun (w.heap.size + 2)) (D1 D (w.heap.size + 2)) w w' v v' /\ MadeL v' pl ds L /\ v.heap.size <= pl /\
   Stand Tryz.prog (S1 Shun (w.heap.size + 2)) w'.heap.size (o + ds.length + 1) (G (after b₀ a₀ ops₀ i₀ rest₀ k₀ (.pointer (some ⟨pl, 0, none⟩))) cs) w' m' t' := by
 have hnum : ds.length <= 64 := by simpa using hso.1
 have hwrow := rel_row hrel hrow hX0
 have hnb : ¬ D b := fun hd => by
  rcases dk_v hdk hrel b hd with ⟨_, e, he⟩ | ⟨_, he⟩
  ·rw [hrow] at he
   cases he
   simp at hX0
  ·rw [hrow] at he
   cases he
 obtain ⟨code, hcode⟩ : ∃ code : Nat -> ByteArray, code = fun i => ((ds[i]?).map (·.1.code)).getD ByteArray.empty := ⟨_, rfl⟩
 have hcat : ∀ i (hi : i < ds.length), code i = ds[i].1.code := fun i hi => by rw [hcode]; simp [hi]
 have hA : Acc0 Shun b ds.length X code w := by
  refine ⟨hwrow, hX, h1, fun i hi => ?_, fun i hi => ?_, by omega, fun a ha hS => ?_, on_low hrel hhid⟩
  ·obtain ⟨b', o', e, hacc⟩ := hI.acc.resolve_left (fun h => by rw [h] at hi; simp at hi)
   simp only [Option.some.injEq, Addr.mk.injEq, and_true] at e
   obtain ⟨rfl, rfl⟩ := e
   have := (hacc i _ (List.getElem?_eq_getElem hi)) 6 _ rfl
   rw [Nat.zero_add, cell_of_row v b _ X 52 (0, 0) hrow] at this
   rw [this, hcat i hi]
  ·rw [hcat i hi]
   have := (hso.2.1 _ (List.mem_map_of_mem (List.getElem_mem hi))).2.2.2.2.1
   omega
  ·obtain ⟨a', e, hz⟩ := hhid _ hS
   cases e
   exact hnb (ha ▸ hz)
 -- up to the call
 refine (runs_sil (enter17 (h0 := w.heap)) rfl hst).then fun m1 t1 h2 => ?_
 obtain ⟨a1, w1, ⟨rfl, hh1⟩, ho1, hst1⟩ := h2
 have hsz1 : w1.heap.size = w.heap.size := by rw [hh1]
 have hA1 : Acc0 Shun b ds.length X code w1 := ⟨by rw [hh1]; exact hA.row, hA.size, hA.one, hA.cod, hA.short, hA.n31, hA.sh, fun l hl => by rw [hh1]; exact hA.low l hl⟩
 rw [<- hsz1] at hst1
 refine (findMarks_runs hA1 (by omega) hst1).then fun m2 t2 h3 => ?_
 obtain ⟨w2, hF, hst2⟩ := h3
 have hact : (Act.put ⟨#[.slice (some ⟨b, 0, none⟩) ds.length cap, undef, .pointer none, undef, undef, undef, undef, .slice (some ⟨b, 0, none⟩) ds.length cap, undef, undef, undef, undef, undef, undef, undef, undef, undef, undef, undef, undef, undef, undef, undef, undef, undef, undef, undef, undef, undef, undef, undef, undef, undef, undef, undef, undef, undef, undef, undef, undef, undef, undef, undef, undef, undef, undef], []⟩ ((ops17[1]?).bind (·.dst)) (sl w1.heap.size ds.length)) = ⟨#[.slice (some ⟨b, 0, none⟩) ds.length cap, undef, .pointer none, undef, undef, undef, undef, .slice (some ⟨b, 0, none⟩) ds.length cap, sl w1.heap.size ds.length, undef, undef, undef, undef, undef, undef, undef, undef, undef, undef, undef, undef, undef, undef, undef, undef, undef, undef, undef, undef, undef, undef, undef, undef, undef, undef, undef, undef, undef, undef, undef, undef, undef, undef, undef, undef, undef], []⟩ := rfl
 rw [hact] at hst2
 clear hact
 have honF := onto_sil (w' := w1) hdk hrel hhid hh1 ho1
 obtain ⟨u2, hon2⟩ := found_rel (by rw [hsz1]; exact hB) honF.rel honF.dk hhid hF
 rw [hsz1] at hon2
 refine (runs_sil (mid17 (h0 := w2.heap)) rfl hst2).then fun m3 t3 h4 => ?_
 obtain ⟨a3, w3, ⟨rfl, hh3⟩, ho3, hst3⟩ := h4
 have hsz3 : w3.heap.size = w2.heap.size := by rw [hh3]
 have hon3 := (honF.trans hon2).trans (onto_sil (w' := w3) hon2.dk hon2.rel hon2.hid hh3 ho3)
 have hgsz := hF.grown
 -- the lone walk of the rest
 have hwill := lift_rest (D := D1 D (w.heap.size + 2)) (f := 35) (fn := Tryz.f35) (c := c17) (b := base 35) (b₀ := b₀) (a₀ := a₀) (ops₀ := ops₀) (i₀ := i₀) (rest₀ := rest₀) (k₀ := k₀) (cw := cs) (w := w3)
  (Ψ := fun val v' => ∃ u, Rel (veil (D1 D (w.heap.size + 2))) w3 u /\ ∃ L mks, val = .pointer (some ⟨u.heap.size + 2, 0, none⟩) /\ N35 u v' ds mks ds.length L /\ ∀ i, i < ds.length -> ∃ bb, mks i = ⟨some ⟨bb, 0, none⟩, (code i).size, (code i).size⟩ /\ u.heap[bb]? = some (.cells (marks (code i) (code i).size 0 (zeros (code i).size)) 4 (0, 0)))
  rfl TryQ.func35 rfl rfl ok17 hb₀ ha₀ ho₀ hk₀ ⟨_, hon3.rel⟩ (a := ⟨#[.slice (some ⟨b, 0, none⟩) ds.length cap, undef, .pointer none, sl w1.heap.size ds.length, undef, undef, undef, .slice (some ⟨b, 0, none⟩) ds.length cap, sl w1.heap.size ds.length, undef, undef, undef, undef, undef, undef, undef, undef, undef, undef, undef, undef, undef, undef, undef, undef, undef, undef, undef, undef, undef, undef, undef, undef, undef, undef, undef, undef, undef, undef, undef, undef, undef, undef, undef, undef, undef], []⟩) (fun u hu => ?_)
 ·rw [hsz1] at hst3
  have hst4 : Stand Tryz.prog (S1 Shun (w.heap.size + 2)) w3.heap.size (o + ds.length + 1) (G ((base 35).at ⟨#[.slice (some ⟨b, 0, none⟩) ds.length cap, undef, .pointer none, sl w1.heap.size ds.length, undef, undef, undef, .slice (some ⟨b, 0, none⟩) ds.length cap, sl w1.heap.size ds.length, undef, undef, undef, undef, undef, undef, undef, undef, undef, undef, undef, undef, undef, undef, undef, undef, undef, undef, undef, undef, undef, undef, undef, undef, undef, undef, undef, undef, undef, undef, undef, undef, undef, undef, undef, undef, undef], []⟩ [.code c17]) (b₀.at a₀ (.inRegion ops₀ (i₀ :: rest₀) :: k₀) :: cs)) w3 m3 t3 := by rw [hsz3, hsz1]; exact hst3
  refine (runs_will hon3.hid hwill hst4).mono fun m5 t5 h5 => ?_
  obtain ⟨g5, w5, ⟨val, v5, rfl, hr5, hs5, u, hu, L, mks, rfl, hN, hM⟩, hst5⟩ := h5
  have hon5 := onto_lone hon3.dk hon3.rel hon3.hid (Nat.le_trans hB hon3.up) hu hr5 hs5 hN.below
  have htu := hon3.tw.trans (tw_rel hon3.dk hon3.rel hu)
  refine ⟨w5, v5, u.heap.size + 2, L, hon3.trans hon5, ⟨⟨_, _, hN.lg (hI.tw htu) hso (Nat.le_trans hb0 htu.size)⟩, hN.len, fun i d hd => ?_⟩, ?_, hst5⟩
  ·have hi : i < ds.length := by
    rcases Nat.lt_or_ge i ds.length with h | h
    ·exact h
    ·rw [List.getElem?_eq_none h] at hd; cases hd
   obtain ⟨pa, ms, d', hd', hL⟩ := hN.lst i hi
   rw [hd] at hd'
   cases hd'
   have hcd : code i = d.code := by
    rw [hcat i hi]
    rw [List.getElem?_eq_getElem hi] at hd
    simp only [Option.map_some, Option.some.injEq] at hd
    rw [hd]
   obtain ⟨bb, hb1, hb2⟩ := hM i hi
   rw [hcd] at hb1 hb2
   exact ⟨pa, ms, bb, by rw [hL, hb1], (hN.below.block _ (blk_lt hb2)).trans hb2⟩
  ·have := htu.size; omega
 ·have hIu : InR u (some ⟨b, 0, none⟩) ds := hI.tw (hon3.tw.trans (tw_rel hon3.dk hon3.rel hu))
  have hng : ¬ D1 D (w.heap.size + 2) w1.heap.size := fun h => by
   rcases h with h | h
   ·have := hrel.low _ h; omega
   ·omega
  obtain ⟨cs3, hp1, hp2⟩ := hF.pay
  rw [<- hh3] at hp1
  have hpu := rel_up hu hp1 hng
  have hmk : ∀ i, i < ds.length -> ∃ bb, u.heap[bb]? = some (.cells (marks (code i) (code i).size 0 (zeros (code i).size)) 4 (0, 0)) /\ u.cell? ⟨w1.heap.size, i, none⟩ = some (.slice (some ⟨bb, 0, none⟩) (code i).size (code i).size) := fun i hi => by
   obtain ⟨bb, hlo, hbb, hc, hne⟩ := hF.cell i hi
   rw [cell_of_row w2 _ i cs3 132 (0, 0) (by rw [<- hh3]; exact hp1)] at hc
   refine ⟨bb, rel_up hu (by rw [hh3]; exact hbb) (fun h => ?_), (cell_of_row u _ i cs3 132 (0, 0) hpu).trans hc⟩
   rcases h with h | h
   ·have := hrel.low _ h; omega
   ·omega
  have hmk2 : ∃ mks : Nat -> SV, ∀ i, i < ds.length -> (u.cell? ⟨w1.heap.size, i, none⟩ = some (.slice (mks i).a (mks i).n (mks i).c)) /\ ∃ bb, mks i = ⟨some ⟨bb, 0, none⟩, (code i).size, (code i).size⟩ /\ u.heap[bb]? = some (.cells (marks (code i) (code i).size 0 (zeros (code i).size)) 4 (0, 0)) := by
   refine ⟨fun i => if h : i < ds.length then ⟨some ⟨(hmk i h).choose, 0, none⟩, (code i).size, (code i).size⟩ else ⟨none, 0, 0⟩, fun i hi => ?_⟩
   dsimp only
   rw [dif_pos hi]
   exact ⟨(hmk i hi).choose_spec.2, _, rfl, (hmk i hi).choose_spec.1⟩
  obtain ⟨mks, hmks⟩ := hmk2
  have hwp := new35 ds (some ⟨b, 0, none⟩) cap w1.heap.size ds.length mks u hIu (fun i hi => (hmks i hi).1) (by rw [hu.size]; omega) hso
  refine Code.wp_mono ?_ hwp
  intro e a' v' hbp
  exact bodyPost_mono (fun e v' ⟨val, h1, L, h2, h3⟩ => ⟨val, h1, u, hu, L, mks, h2, h3, fun i hi => (hmks i hi).2⟩) hbp
end Go.Mark
set_option maxRecDepth 100000
set_option maxHeartbeats 4000000
namespace Go.Mark
open Go.Conc Go.Walk Go.Phase Go.RowKit Go.Conc.Lib Go.ConcR.Gen Go.ConcN.Gen Go.Lift Go.Proofs
open Go.ConcN (WgLive Has RW DWs AtR0 PayAt)
open Go.ConcR (KK WgAt stA smA rd wr mk Payload)
variable [BaseB]
theorem lift_rest_ops {D : Nat -> Prop} {f : FuncId} {fn : Func} {c : Code} {ops : Array Oper} {l : List Nat} {b b₀ : Frame} {a a₀ : Act} {ops₀ : Array Oper} {i₀ : Nat} {rest₀ : List Nat} {k₀ : List Item} {cw : List Frame} {w : World} {Ψ : Value -> World -> Prop} (hbf : b.fn = f) (hf : TryQ.prog.funcs[f]? = some fn) (hb : b.kind = .normal) (ha : a.defers = []) (ho : okOps Tryz.prog ops = true) (hc : okCode Tryz.prog c = true)
  (hb₀ : b₀.kind = .normal) (ha₀ : a₀.defers = []) (ho₀ : okOps Tryz.prog ops₀ = true) (hk₀ : ∀ x ∈ k₀, okItem Tryz.prog x = true)
  (hex : ∃ v, Rel (veil D) w v) (hwp : ∀ v, Rel (veil D) w v -> wpOps TryQ.prog ops (fun e a' v' => e = .normal /\ c.wp TryQ.prog (bodyPost TryQ.prog fn fun e v' => ∃ val, e = .returned val /\ Ψ val v') a' v') l a v) :
  Will Tryz.prog (DClean (veil D)) (fun g w' => ∃ val v', g = G (after b₀ a₀ ops₀ i₀ rest₀ k₀ val) cw /\ Rel (veil D) w' v' /\ Stays w w' v' /\ Ψ val v') (G (b.at a (.inRegion ops l :: [.code c])) (b₀.at a₀ (.inRegion ops₀ (i₀ :: rest₀) :: k₀) :: cw)) w := by
 have tc : ∀ a', a'.defers = [] -> ∀ l, TameF Tryz.prog (b₀.at a' (.inRegion ops₀ l :: k₀)) := fun a' ha' l => tame_at hb₀ ha' (fun x hx => by rcases List.mem_cons.1 hx with rfl | hx; exact ho₀; exact hk₀ x hx)
 refine will_mono ?_ (lift (fair D) (cw := cw) (S := fun fr frs v => ∃ val, fr = after b₀ a₀ ops₀ i₀ rest₀ k₀ val /\ frs = [] /\ Ψ val v) (fr := b.at a (.inRegion ops l :: [.code c])) (frs := [b₀.at a₀ (.inRegion ops₀ (i₀ :: rest₀) :: k₀)]) (w := w)
  (tame_at hb ha (fun x hx => by rcases List.mem_cons.1 hx with rfl | hx; exact ho; rw [List.mem_singleton.1 hx]; exact hc)) (fun f hf => by rw [List.mem_singleton.1 hf]; exact tc a₀ ha₀ _) hex (fun v hv => ?_))
 ·rintro g w' ⟨fr, frs, v, rfl, hr, hs, val, rfl, rfl, hΨ⟩
  exact ⟨val, v, rfl, hr, hs, hΨ⟩
 ·obtain ⟨e0, a1, v1, ⟨rfl, hwp1⟩, hA0⟩ := wp_ops _ _ _ (hwp v hv) b [.code c] (b₀.at a₀ (.inRegion ops₀ (i₀ :: rest₀) :: k₀) :: [trap FQ.size])
  obtain ⟨e, a', v', hQ, hA⟩ := hwp1 b [] (b₀.at a₀ (.inRegion ops₀ (i₀ :: rest₀) :: k₀) :: [trap FQ.size])
  have hst : Steps TryQ.prog (lone (b.at a (.inRegion ops l :: [.code c])) (b₀.at a₀ (.inRegion ops₀ (i₀ :: rest₀) :: k₀) :: [trap FQ.size]) v) (lone (b.at a1 [.code c]) (b₀.at a₀ (.inRegion ops₀ (i₀ :: rest₀) :: k₀) :: [trap FQ.size]) v1) := hA0
  have fin : ∀ val, (b₀.at a₀ (.inRegion ops₀ (i₀ :: rest₀) :: k₀)).finish val = after b₀ a₀ ops₀ i₀ rest₀ k₀ val := fun val => Frame.finish_at _ _ _ _ _ _ _
  have key : ∀ val, (∃ todo, Steps TryQ.prog (lone (b.at a1 [.code c]) (b₀.at a₀ (.inRegion ops₀ (i₀ :: rest₀) :: k₀) :: [trap FQ.size]) v1) (lone { b.at a' todo with mode := .returning } (b₀.at a₀ (.inRegion ops₀ (i₀ :: rest₀) :: k₀) :: [trap FQ.size]) v')) -> a'.defers = [] -> (results fn a'.tmps).run TryQ.prog v' = .ok val v' -> Ψ val v' ->
    ∃ n fr' frs' v'', runN (strip Tryz.prog FQ) n (lone (b.at a (.inRegion ops l :: [.code c])) ([b₀.at a₀ (.inRegion ops₀ (i₀ :: rest₀) :: k₀)] ++ [trap FQ.size]) v) = .next (lone fr' (frs' ++ [trap FQ.size]) v'') /\ TameF Tryz.prog fr' /\ ∃ val, fr' = after b₀ a₀ ops₀ i₀ rest₀ k₀ val /\ frs' = [] /\ Ψ val v'' := by
   rintro val ⟨todo, hs⟩ hd hr hΨ
   obtain ⟨n, hn⟩ := (hst.trans hs).trans (leave_steps (todo := todo) hbf hb hf hd hr)
   rw [fin, TryQ.prog_eq] at hn
   exact ⟨n, _, [], v', hn, tc _ (put_nil _ _ _ ha₀) _, val, rfl, rfl, hΨ⟩
  cases e with
  | normal =>
   obtain ⟨hd, x, hr, val, hv', hΨ⟩ := hQ
   cases hv'
   exact key _ ⟨[], hA.trans (.one step_end)⟩ hd hr hΨ
  | ret =>
   obtain ⟨hd, x, hr, val, hv', hΨ⟩ := hQ
   cases hv'
   exact key _ hA hd hr hΨ
  | panic ch => obtain ⟨_, _, h, _⟩ := hQ; cases h
  | outgrown => obtain ⟨_, h, _⟩ := hQ; cases h
  | _ => exact hQ.elim
noncomputable def c8 : Code := match Tryz.f16.body with
 | some (.seq _ (.seq c _)) => c
 | _ => .skip
noncomputable def d8 : Code := match Tryz.f16.body with
 | some (.seq _ (.seq _ c)) => c
 | _ => .skip
noncomputable def e8 : Code := match d8 with
 | .seq _ c => c
 | _ => .skip
noncomputable def ops8 : Array Oper := match d8 with
 | .seq (.region _ o _) _ => o
 | _ => #[]
theorem okc8 : okCode Tryz.prog c8 = true := by kernel_rfl
theorem okd8 : okItem Tryz.prog (.code d8) = true := by kernel_rfl
theorem oke8 : okCode Tryz.prog e8 = true := by kernel_rfl
theorem oko8 : okOps Tryz.prog ops8 = true := by kernel_rfl
section
variable {h0 : Array Obj} {b n cap : Nat} {cs : List Frame}
theorem enter8 : GoW Tryz.prog true AtRel DSil (fun g w => g = G ((base 16).at ⟨#[.slice (some ⟨b, 0, none⟩) n cap, undef, .pointer none, .nilIface, undef, undef, undef, undef, undef, undef, undef, undef, undef], []⟩ [.code c8, .code d8]) cs /\ w.heap = h0) (fun w => w.heap = h0) 30
   (G ((base 16).at ⟨#[.slice (some ⟨b, 0, none⟩) n cap] ++ Array.replicate 12 undef, []⟩ [.code (Tryz.f16.body.getD .skip)]) cs) := by
 have E := envS h0
 obtain ⟨bd, hbd⟩ : ∃ c, c = c8 := ⟨_, rfl⟩
 have hbd' := hbd
 obtain ⟨be, hbe⟩ : ∃ c, c = d8 := ⟨_, rfl⟩
 have hbe' := hbe
 simp only [c8, Tryz.f16] at hbd'
 simp only [d8, Tryz.f16] at hbe'
 rw [<- hbd, <- hbe]
 simp only [Tryz.f16, Option.getD_some]
 rw [<- hbd', <- hbe']
 walk_nrm
 repeat (first
  | refine gw_seq E ?_
  | refine gw_region_end E ?_
  | refine gw_region_2 E ?_
  | (refine gw_opk E rfl rfl (by k_ne) (fun w hF K hK => ?_); go_simp; refine hK _ (by simp [go_sem, *]) ?_; clear hK K hF w; try w_num))
 exact gw_stop E (fun w hw => ⟨rfl, hw⟩)
theorem mid8 : GoW Tryz.prog true AtRel DSil (fun g w => g = G ((base 35).at ⟨#[.slice (some ⟨b, 0, none⟩) n cap] ++ Array.replicate 45 undef, []⟩ [.code (Tryz.f35.body.getD .skip)]) ((base 16).at ⟨#[.slice (some ⟨b, 0, none⟩) n cap, undef, .pointer none, .nilIface, .slice (some ⟨b, 0, none⟩) n cap, .bool true, .bool false, undef, undef, .slice (some ⟨b, 0, none⟩) n cap, undef, undef, undef], []⟩ (.inRegion ops8 [1, 2, 3, 4, 5] :: [.code e8]) :: cs) /\ w.heap = h0) (fun w => w.heap = h0) 30
   (G ((base 16).at ⟨#[.slice (some ⟨b, 0, none⟩) n cap, undef, .pointer none, .nilIface, .slice (some ⟨b, 0, none⟩) n cap, .bool true, .bool false, undef, undef, undef, undef, undef, undef], []⟩ [.code d8]) cs) := by
 have E := envS h0
 obtain ⟨be, hbe⟩ : ∃ c, c = e8 := ⟨_, rfl⟩
 have hbe' := hbe
 simp only [e8, d8, Tryz.f16] at hbe'
 obtain ⟨bc, hbc⟩ : ∃ c, c = Tryz.f35.body.getD .skip := ⟨_, rfl⟩
 rw [<- hbe, <- hbc]
 simp only [ops8, d8, Tryz.f16]
 rw [<- hbe']
 walk_nrm
 repeat (first
  | refine gw_seq E ?_
  | refine gw_region_6 E ?_
  | (refine gw_opk E rfl rfl (by k_ne) (fun w hF K hK => ?_); go_simp; refine hK _ (by simp [go_sem, *]) ?_; clear hK K hF w; try w_num))
 have hnm : (Tryz.f35.name == "runtime.NumGoroutine") = false := by kernel_rfl
 have hbody : Tryz.f35.body = some bc := by rw [hbc]; kernel_rfl
 refine gw_call E rfl rfl (by k_ne) rfl Tryz.func35 hnm hbody ?_
 rw [Tryz.ntmps35]
 clear hnm hbody hbc hbe hbe'
 walk_nrm
 exact gw_stop E (fun w hw => ⟨rfl, hw⟩)
end
end Go.Mark
