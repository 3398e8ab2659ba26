/-
  purser.New beside leavers (8): from its entry to its return.
-/
import Derived.Test.YtbephahokhnccaaGreatXH1toH4
set_option linter.unusedSectionVars false
namespace Go.Mark
open Go.Conc Go.Walk Go.Phase Go.RowKit Go.Conc.Lib Go.ConcR.Gen Go.ConcN.Gen Go.Lift Go.Proofs
open Go.ConcN (WgLive Has RW DWs AtR0 PayAt)
open Go.ConcR (KK WgAt stA smA rd wr mk Payload)
/-- what purser.New answers -/
def Res8 (ds : List (AccD × SV)) (v v' : World) (val : Value) : Prop :=
  (Sound (ds.map (·.1)) ∧ ∃ pw pl L, val = .tuple #[.pointer (some ⟨pw, 0, none⟩), .nilIface] ∧ v'.cell? ⟨pw, 0, none⟩ = some (.pointer (some ⟨pl, 0, none⟩)) ∧ LedgerAt v' pl L ∧ L.map (·.1) = ds.map (fun p => kp p.1) ∧ v.heap.size ≤ pl ∧ v.heap.size ≤ pw) ∨
  (¬ Sound (ds.map (·.1)) ∧ val = .tuple #[.pointer none, .iface 69 (.agg #[.int .i64 1])])
theorem wpOps_rest {P : Program} {ops : Array Oper} {Q : Exit → Act → World → Prop} {a : Act} {w : World} (l : List Oper) (k n : Nat) (hn : l.length = n) (hl : ∀ j, l[j]? = ops[k + j]?) (h : wpList P ops Q l a w) : wpOps P ops Q (List.range' k n) a w := by
  rw [← hn, wpOps_eq_wpList l k hl]
  exact h
theorem okb8 : okCode Tryz.prog (Tryz.f8.body.getD .skip) = true := by kernel_rfl
section
variable {ds : List (AccD × SV)} {b cap : Nat}
set_option maxRecDepth 100000 in
set_option maxHeartbeats 4000000 in
/-- Allowed says yes -/
theorem lone8 (u : World) (hI : Ins u b ds) (hso : Sound (ds.map (·.1))) (Φ : Act → World → Prop) (hΦ : ∀ v', Below u.heap.size u v' → Φ ⟨#[.slice (some ⟨b, 0, none⟩) ds.length cap, undef, .pointer none, .nilIface, .slice (some ⟨b, 0, none⟩) ds.length cap, .bool true, .bool false, undef, undef, undef, undef, undef, undef], []⟩ v') :
    c8.wp TryQ.prog (fun e a' v' => e = .normal ∧ a'.defers = [] ∧ Φ a' v') ⟨#[.slice (some ⟨b, 0, none⟩) ds.length cap, undef, .pointer none, .nilIface, undef, undef, undef, undef, undef, undef, undef, undef, undef], []⟩ u := by
  have hal := allowed ds b cap u hI
  rw [decide_eq_true hso] at hal
  dsimp only [c8, Tryz.f8]
  go_wp2_with fail
  refine hal.mono ?_
  rintro e w1 ⟨rfl, hb⟩
  have := hΦ _ hb
  clear hΦ
  go_wp2_with fail
  exact this
set_option maxRecDepth 100000 in
set_option maxHeartbeats 4000000 in
/-- Allowed says no -/
theorem no8 (u : World) (hI : Ins u b ds) (hso : ¬ Sound (ds.map (·.1))) (Ψ : Value → World → Prop) (hΨ : ∀ v', Below u.heap.size u v' → Ψ (.tuple #[.pointer none, .iface 69 (.agg #[.int .i64 1])]) v') :
    (Tryz.f8.body.getD .skip).wp TryQ.prog (bodyPost TryQ.prog Tryz.f8 fun e v' => ∃ val, e = .returned val ∧ Ψ val v') ⟨#[.slice (some ⟨b, 0, none⟩) ds.length cap] ++ Array.replicate 12 undef, []⟩ u := by
  have hal := allowed ds b cap u hI
  rw [decide_eq_false hso] at hal
  dsimp only [Tryz.f8, Option.getD_some]
  go_wp2_with fail
  refine hal.mono ?_
  rintro e w1 ⟨rfl, hb⟩
  go_wp2
  simp [bodyPost, results, go_sem]
  exact hΨ _ hb
set_option maxRecDepth 100000 in
set_option maxHeartbeats 4000000 in
/-- the box -/
theorem rest8 (u : World) (pl : Nat) (Ψ : Value → World → Prop) (hΨ : ∀ v', v'.cell? ⟨u.heap.size, 0, none⟩ = some (.pointer (some ⟨pl, 0, none⟩)) → Below u.heap.size u v' → Ψ (.tuple #[.pointer (some ⟨u.heap.size, 0, none⟩), .nilIface]) v') :
    wpOps TryQ.prog ops8 (fun e a' v' => e = .normal ∧ e8.wp TryQ.prog (bodyPost TryQ.prog Tryz.f8 fun e v' => ∃ val, e = .returned val ∧ Ψ val v') a' v') [2, 3, 4, 5] ⟨#[.slice (some ⟨b, 0, none⟩) ds.length cap, undef, .pointer none, .nilIface, .slice (some ⟨b, 0, none⟩) ds.length cap, .bool true, .bool false, undef, undef, .slice (some ⟨b, 0, none⟩) ds.length cap, .pointer (some ⟨pl, 0, none⟩), undef, undef], []⟩ u := by
  obtain ⟨fn, hfn⟩ : ∃ fn, fn = Tryz.f8 := ⟨_, rfl⟩
  have hres : fn.results = #[ResultVar.tmp 2, ResultVar.tmp 3] := by rw [hfn]; exact Tryz.results8
  rw [← hfn]
  clear hfn
  obtain ⟨l, hl⟩ : ∃ l, l = ops8.toList.drop 2 := ⟨_, rfl⟩
  have hl' := hl
  simp only [ops8, d8, Tryz.f8, List.drop_succ_cons, List.drop_zero] at hl'
  refine wpOps_rest l 2 4 (by rw [hl']; rfl) (fun j => by rw [hl]; simp) ?_
  rw [hl']
  dsimp only [e8, ops8, d8, Tryz.f8]
  clear hl' hl l
  go_wp2
  simp [bodyPost, results, hres, go_sem]
  refine hΨ _ ?_ ((Below.refl _ _).alloc (Nat.le_refl _) _)
  simp [go_sem]
end
set_option maxRecDepth 100000 in
set_option maxHeartbeats 1000000 in
theorem new8_runs {B : Nat} {Shun : Loc → Prop} {D : Nat → Prop} {ds : List (AccD × SV)} {b cap o : Nat} {X : Array Value} {b₀ : Frame} {a₀ : Act} {ops₀ : Array Oper} {i₀ : Nat} {rest₀ : List Nat} {k₀ : List Item} {cs : List Frame} {w v : World} {m : Machine} {t : Trace}
    (hB : B ≤ w.heap.size) (hrel : Rel (veil D) w v) (hdk : Dk B D w) (hhid : Hides (veil D) Shun) (hrow : v.heap[b]? = some (.cells X 31)) (hX0 : 0 < X.size) (hX : ds.length * 8 ≤ X.size) (h1 : X.all (·.oneCell') = true) (hI : Ins v b ds) (ho : o + 64 < 2147483647)
    (hb₀ : b₀.kind = .normal) (ha₀ : a₀.defers = []) (ho₀ : okOps Tryz.prog ops₀ = true) (hk₀ : ∀ x ∈ k₀, okItem Tryz.prog x = true)
    (hst : Stand Tryz.prog Shun w.heap.size (o + 1) (G ((base 8).at ⟨#[.slice (some ⟨b, 0, none⟩) ds.length cap] ++ Array.replicate 12 undef, []⟩ [.code (Tryz.f8.body.getD .skip)]) (b₀.at a₀ (.inRegion ops₀ (i₀ :: rest₀) :: k₀) :: cs)) w m t) :
    Runs Tryz.prog m t fun m' t' => ∃ w' v' Shun' D' o' val, OnTo B Shun' D' w w' v v' ∧ Res8 ds v v' val ∧ o' ≤ o + 64 ∧
      Stand Tryz.prog Shun' w'.heap.size (o' + 1) (G (after b₀ a₀ ops₀ i₀ rest₀ k₀ val) cs) w' m' t' := by
  by_cases hso : Sound (ds.map (·.1))
  rotate_left
  · have hwill := lift_rest (D := D) (f := 8) (fn := Tryz.f8) (c := Tryz.f8.body.getD .skip) (b := base 8) (b₀ := b₀) (a₀ := a₀) (ops₀ := ops₀) (i₀ := i₀) (rest₀ := rest₀) (k₀ := k₀) (cw := cs) (w := w)
      (Ψ := fun val v' => ∃ u, Rel (veil D) w u ∧ val = .tuple #[.pointer none, .iface 69 (.agg #[.int .i64 1])] ∧ Below u.heap.size u v')
      rfl TryQ.func8 rfl rfl okb8 hb₀ ha₀ ho₀ hk₀ ⟨v, hrel⟩ (a := ⟨#[.slice (some ⟨b, 0, none⟩) ds.length cap] ++ Array.replicate 12 undef, []⟩) (fun u hu => no8 u (hI.tw (tw_rel hdk hrel hu)) hso _ (fun v' hb => ⟨u, hu, rfl, hb⟩))
    refine (runs_will hhid hwill hst).mono fun m5 t5 h5 => ?_
    obtain ⟨g5, w5, ⟨val, v5, rfl, hr5, hs5, u, hu, hval, hb⟩, hst5⟩ := h5
    exact ⟨w5, v5, Shun, D, o, val, onto_lone hdk hrel hhid hB hu hr5 hs5 hb, .inr ⟨hso, hval⟩, by omega, hst5⟩
  have hnum : ds.length ≤ 64 := by simpa using hso.1
  refine (runs_sil (enter8 (h0 := w.heap)) rfl hst).then fun m1 t1 h2 => ?_
  obtain ⟨a1, w1, ⟨rfl, hh1⟩, ho1, hst1⟩ := h2
  have hon1 := onto_sil (w' := w1) hdk hrel hhid hh1 ho1
  have hwill := lift_code (D := D) (c := c8) (b := base 8) (k := [.code d8]) (cw := b₀.at a₀ (.inRegion ops₀ (i₀ :: rest₀) :: k₀) :: cs) (w := w1) (a := ⟨#[.slice (some ⟨b, 0, none⟩) ds.length cap, undef, .pointer none, .nilIface, undef, undef, undef, undef, undef, undef, undef, undef, undef], []⟩)
    (Φ := fun a' v' => a' = ⟨#[.slice (some ⟨b, 0, none⟩) ds.length cap, undef, .pointer none, .nilIface, .slice (some ⟨b, 0, none⟩) ds.length cap, .bool true, .bool false, undef, undef, undef, undef, undef, undef], []⟩ ∧ ∃ u, Rel (veil D) w1 u ∧ Below u.heap.size u v') rfl rfl okc8 (fun x hx => by rw [List.mem_singleton.1 hx]; exact okd8) ⟨_, hon1.rel⟩
    (fun u hu => lone8 u (hI.tw (tw_rel hon1.dk hon1.rel hu)) hso _ (fun v' hb => ⟨rfl, u, hu, hb⟩))
  have hsz1 : w1.heap.size = w.heap.size := by rw [hh1]
  rw [← hsz1] at hst1
  refine (runs_will hhid hwill hst1).then fun m2 t2 h3 => ?_
  obtain ⟨g2, w2, ⟨a2, v2, rfl, hr2, hs2, _, rfl, u2, hu2, hb2⟩, hst2⟩ := h3
  have hon2 := hon1.trans (onto_lone hon1.dk hon1.rel hhid (Nat.le_trans hB hon1.up) hu2 hr2 hs2 hb2)
  refine (runs_sil (mid8 (h0 := w2.heap)) rfl hst2).then fun m3 t3 h4 => ?_
  obtain ⟨g3, w3, ⟨rfl, hh3⟩, ho3, hst3⟩ := h4
  have hon3 := hon2.trans (onto_sil (w' := w3) hon2.dk hon2.rel hhid hh3 ho3)
  have hsz3 : w3.heap.size = w2.heap.size := by rw [hh3]
  rw [← hsz3] at hst3
  have hI3 : Ins v2 b ds := hI.tw hon3.tw
  refine (new17_runs (o := o) (b₀ := base 8) (a₀ := ⟨#[.slice (some ⟨b, 0, none⟩) ds.length cap, undef, .pointer none, .nilIface, .slice (some ⟨b, 0, none⟩) ds.length cap, .bool true, .bool false, undef, undef, .slice (some ⟨b, 0, none⟩) ds.length cap, undef, undef, undef], []⟩) (ops₀ := ops8) (i₀ := 1) (rest₀ := [2, 3, 4, 5]) (k₀ := [.code e8]) (Nat.le_trans hB hon3.up) hon3.rel hon3.dk hhid (hon3.tw.obj b _ hrow (.inl trivial)) hX0 hX h1 hI3 hso ho rfl rfl oko8 (fun x hx => by rw [List.mem_singleton.1 hx]; exact oke8) hst3).then fun m4 t4 h5 => ?_
  obtain ⟨w4, v4, pl, L, hon, hled, hL, hpl, hst4⟩ := h5
  have hact : after (base 8) ⟨#[.slice (some ⟨b, 0, none⟩) ds.length cap, undef, .pointer none, .nilIface, .slice (some ⟨b, 0, none⟩) ds.length cap, .bool true, .bool false, undef, undef, .slice (some ⟨b, 0, none⟩) ds.length cap, undef, undef, undef], []⟩ ops8 1 [2, 3, 4, 5] [.code e8] (.pointer (some ⟨pl, 0, none⟩)) = (base 8).at ⟨#[.slice (some ⟨b, 0, none⟩) ds.length cap, undef, .pointer none, .nilIface, .slice (some ⟨b, 0, none⟩) ds.length cap, .bool true, .bool false, undef, undef, .slice (some ⟨b, 0, none⟩) ds.length cap, .pointer (some ⟨pl, 0, none⟩), undef, undef], []⟩ (.inRegion ops8 [2, 3, 4, 5] :: [.code e8]) := rfl
  rw [hact] at hst4
  have hwill2 := lift_rest_ops (D := D1 D (w3.heap.size + 2)) (f := 8) (fn := Tryz.f8) (c := e8) (ops := ops8) (l := [2, 3, 4, 5]) (b := base 8) (b₀ := b₀) (a₀ := a₀) (ops₀ := ops₀) (i₀ := i₀) (rest₀ := rest₀) (k₀ := k₀) (cw := cs) (w := w4) (a := ⟨#[.slice (some ⟨b, 0, none⟩) ds.length cap, undef, .pointer none, .nilIface, .slice (some ⟨b, 0, none⟩) ds.length cap, .bool true, .bool false, undef, undef, .slice (some ⟨b, 0, none⟩) ds.length cap, .pointer (some ⟨pl, 0, none⟩), undef, undef], []⟩)
    (Ψ := fun val v' => ∃ u, Rel (veil (D1 D (w3.heap.size + 2))) w4 u ∧ val = .tuple #[.pointer (some ⟨u.heap.size, 0, none⟩), .nilIface] ∧ v'.cell? ⟨u.heap.size, 0, none⟩ = some (.pointer (some ⟨pl, 0, none⟩)) ∧ Below u.heap.size u v')
    rfl TryQ.func8 rfl rfl oko8 oke8 hb₀ ha₀ ho₀ hk₀ ⟨_, hon.rel⟩ (fun u hu => rest8 u pl _ (fun v' hc hb => ⟨u, hu, rfl, hc, hb⟩))
  refine (runs_will hon.hid hwill2 hst4).mono fun m5 t5 h6 => ?_
  obtain ⟨g5, w5, ⟨val, v5, rfl, hr5, hs5, u, hu, hval, hcell, hb⟩, hst5⟩ := h6
  have hon4 := hon3.trans hon
  have hon5 := onto_lone hon.dk hon.rel hon.hid (Nat.le_trans hB hon4.up) hu hr5 hs5 hb
  have hus : v4.heap.size = u.heap.size := by rw [hon.rel.size, hu.size]
  exact ⟨w5, v5, _, _, o + ds.length, val, hon4.trans hon5, .inl ⟨hso, _, pl, L, hval, hcell, hled.tw hon5.tw, hL, Nat.le_trans hon3.tw.size hpl, by rw [← hus]; exact hon4.tw.size⟩, by omega, hst5⟩
end Go.Mark
