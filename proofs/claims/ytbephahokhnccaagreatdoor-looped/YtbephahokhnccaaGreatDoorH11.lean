import Derived.Test.YtbephahokhnccaaGreatDoorXH8toH10
set_option linter.unusedSectionVars false
set_option maxRecDepth 100000
set_option maxHeartbeats 4000000
namespace Go.Mark
open Go.Conc Go.Walk Go.Phase Go.RowKit Go.Conc.Lib Go.ConcR.Gen Go.ConcN.Gen Go.Lift Go.Proofs
open Go.ConcN (WgLive Has RW DWs AtR0 PayAt)
open Go.ConcR (KK WgAt stA smA rd wr mk Payload)
variable [BaseB]
theorem sound12 : Sound ([(d12a, (⟨none, 0, 0⟩ : SV)), (d12b, ⟨none, 0, 0⟩)].map (·.1)) := by
 refine ⟨by simp, fun d hd => ?_, by simp, by simp [M]⟩
 simp only [List.map_cons, List.map_nil, List.mem_cons, List.not_mem_nil, or_false] at hd
 rcases hd with rfl | rfl <;> simp [AccOk, ByteArray.size]
theorem sound14 (st : ByteArray) (hs : st.size <= 1024) : Sound ([(d14a, (⟨none, 0, 0⟩ : SV)), (d14b st, ⟨none, 0, 0⟩)].map (·.1)) := by
 refine ⟨by simp, fun d hd => ?_, by simp, by simp [M]⟩
 simp only [List.map_cons, List.map_nil, List.mem_cons, List.not_mem_nil, or_false] at hd
 rcases hd with rfl | rfl
 ·simp [AccOk, ByteArray.size]
 ·simp [AccOk]
  omega
theorem made_two {W : World} {pl : Nat} {d1 d2 : AccD} {s1 s2 : SV} {L : List (Int × Nat × Ac)} (h : MadeL W pl [(d1, s1), (d2, s2)] L) :
  ∃ m dmb p1 ms1 b1 p2 ms2 b2, L = [accOf d1 ⟨some ⟨b1, 0, none⟩, d1.code.size, d1.code.size⟩ p1 ms1, accOf d2 ⟨some ⟨b2, 0, none⟩, d2.code.size, d2.code.size⟩ p2 ms2] /\ LG W pl m ⟨dmb, []⟩ 0 L [] /\ p1 ≠ p2 /\ W.heap[b2]? = some (.cells (marks d2.code d2.code.size 0 (zeros d2.code.size)) 4 (0, 0)) := by
 obtain ⟨⟨m, dmb, hL⟩, hlen, hlst⟩ := h
 obtain ⟨p1, ms1, b1, e1, _⟩ := hlst 0 d1 rfl
 obtain ⟨p2, ms2, b2, e2, hb2⟩ := hlst 1 d2 rfl
 match L, hlen with
 | [q1, q2], _ =>
  simp only [List.getElem?_cons_zero, List.getElem?_cons_succ, Option.some.injEq] at e1 e2
  subst e1 e2
  refine ⟨m, dmb, p1, ms1, b1, p2, ms2, b2, rfl, hL, fun e => ?_, hb2⟩
  have := hL.ndb
  simp [accOf, e] at this
def t12a : Array Value := #[.bool false, undef, undef, undef, undef, undef, undef, undef, undef, undef, undef, undef, undef, undef, undef, undef, undef, undef, undef, undef, undef, undef, undef, undef, undef, undef, undef, undef, undef, undef, undef, undef, undef, undef, undef, undef, undef, undef, undef, undef] ++ #[undef, undef, undef, undef, undef, undef, undef, undef, undef, undef, undef, undef, undef, undef, undef, undef, undef, undef, undef, undef, undef, undef, undef, undef, undef, undef, undef, undef, undef, undef, undef, undef, undef, undef, undef, undef]
def t12b (x7 x8 x9 : Value) (b : Nat) : Array Value := #[.bool false, undef, undef, undef, undef, undef, undef, x7, x8, x9, .slice (some ⟨b, 0, none⟩) 2 2, undef, undef, undef, undef, undef, undef, undef, undef, undef, undef, undef, undef, undef, undef, undef, undef, undef, undef, undef, undef, undef, undef, undef, undef, undef, undef, undef, undef, undef] ++ #[undef, undef, undef, undef, undef, undef, undef, undef, undef, undef, undef, undef, undef, undef, undef, undef, undef, undef, undef, undef, undef, undef, undef, undef, undef, undef, undef, undef, undef, undef, undef, undef, undef, undef, undef, undef]
def t12c (x7 x8 x9 : Value) (b pw : Nat) : Array Value := #[.bool false, undef, undef, undef, undef, undef, undef, x7, x8, x9, .slice (some ⟨b, 0, none⟩) 2 2, .tuple #[.pointer (some ⟨pw, 0, none⟩), .nilIface], undef, undef, undef, undef, undef, undef, undef, undef, undef, undef, undef, undef, undef, undef, undef, undef, undef, undef, undef, undef, undef, undef, undef, undef, undef, undef, undef, undef] ++ #[undef, undef, undef, undef, undef, undef, undef, undef, undef, undef, undef, undef, undef, undef, undef, undef, undef, undef, undef, undef, undef, undef, undef, undef, undef, undef, undef, undef, undef, undef, undef, undef, undef, undef, undef, undef]
section
variable {h0 : Array Obj} {cs : List Frame}
theorem sKn1' : GoW Tryz.prog true AtRel DSil (fun g w => g = G ((base 12).at ⟨t12a, []⟩ (.inRegion ops12 ([0, 1, 2, 3] ++ [4, 5, 6, 7, 8, 9]) :: [.code c12])) cs /\ w.heap = h0) (fun w => w.heap = h0) 40
   (G ((base 12).at ⟨Array.replicate 76 undef, []⟩ [.code (Tryz.f12.body.getD .skip)]) cs) := sKn1
theorem sKn2' {x7 x8 x9 : Value} {b : Nat} : GoW Tryz.prog true AtRel DSil (fun g w => g = G ((base 16).at ⟨#[.slice (some ⟨b, 0, none⟩) 2 2] ++ Array.replicate 12 undef, []⟩ [.code (Tryz.f16.body.getD .skip)]) (((base 12).at ⟨t12b x7 x8 x9 b, []⟩ (.inRegion ops12 [4, 5, 6, 7, 8, 9] :: [.code c12])) :: cs) /\ w.heap = h0) (fun w => w.heap = h0) 40
   (G ((base 12).at ⟨t12b x7 x8 x9 b, []⟩ (.inRegion ops12 [4, 5, 6, 7, 8, 9] :: [.code c12])) cs) := sKn2
end
theorem pre12' (u : World) (Φ : Act -> World -> Prop) (hΦ : ∀ x7 x8 x9 b v', Below u.heap.size u v' -> u.heap.size <= b -> v'.heap[b]? = some (.cells (row2 d12a d12b) 52 (0, 0)) -> Φ ⟨t12b x7 x8 x9 b, []⟩ v') :
  wpOps TryQ.prog ops12 (fun e a' v' => e = .normal /\ a'.defers = [] /\ Φ a' v') [0, 1, 2, 3] ⟨t12a, []⟩ u := pre12 u Φ hΦ
theorem act12 {x7 x8 x9 : Value} {b pw : Nat} : after (base 12) ⟨t12b x7 x8 x9 b, []⟩ ops12 4 [5, 6, 7, 8, 9] [.code c12] (.tuple #[.pointer (some ⟨pw, 0, none⟩), .nilIface]) = (base 12).at ⟨t12c x7 x8 x9 b pw, []⟩ (.inRegion ops12 [5, 6, 7, 8, 9] :: [.code c12]) := by kernel_rfl
theorem rest12' {u : World} {l m dmb p1 p2 pw b : Nat} {cr : Int} (x7 x8 x9 : Value) (h : Kn l m ⟨dmb, []⟩ cr p1 p2 30000 0 0 10 u) (hne : p1 ≠ p2) (hpo : u.heap[pw]? = some (.cells #[.pointer (some ⟨l, 0, none⟩)] 87 (0, 0))) (hb0 : BaseB.b0 <= u.heap.size) (Ψ : Value -> World -> Prop) (hΨ : ∀ v', Bz u v' -> Ψ (.bool true) v') :
  wpOps TryQ.prog ops12 (fun e a' v' => e = .normal /\ c12.wp TryQ.prog (bodyPost TryQ.prog Tryz.f12 fun e v' => ∃ val, e = .returned val /\ Ψ val v') a' v') [5, 6, 7, 8, 9] ⟨t12c x7 x8 x9 b pw, []⟩ u := rest12 x7 x8 x9 _ h hne hpo hb0 Ψ hΨ
theorem made_kn {W : World} {pl : Nat} {L : List (Int × Nat × Ac)} (h : MadeL W pl [(d12a, (⟨none, 0, 0⟩ : SV)), (d12b, ⟨none, 0, 0⟩)] L) : ∃ m dmb p1 p2, Kn pl m ⟨dmb, []⟩ 0 p1 p2 30000 0 0 10 W /\ p1 ≠ p2 := by
 obtain ⟨m, dmb, p1, ms1, b1, p2, ms2, b2, rfl, hL, hne, _⟩ := made_two h
 exact ⟨m, dmb, p1, p2, ⟨[], _, _, hL, ⟨rfl, rfl, rfl, rfl⟩, ⟨rfl, rfl, rfl, rfl⟩, by decide⟩, hne⟩
theorem known_runs {Shun : Loc -> Prop} {D : Nat -> Prop} {o : Nat} {T12 : Array Value} (hT : T12 = Array.replicate 76 undef) {b₀ : Frame} {a₀ : Act} {ops₀ : Array Oper} {i₀ : Nat} {rest₀ : List Nat} {k₀ : List Item} {cs : List Frame} {w v : World} {m : Machine} {t : Trace}
  (hB : BaseB.b0 <= w.heap.size) (hrel : Rel (veil D) w v) (hdk : Dk BaseB.b0 D w) (hhid : Hides (veil D) Shun) (ho : o + 64 < 2147483647)
  (hb₀ : b₀.kind = .normal) (ha₀ : a₀.defers = []) (ho₀ : okOps Tryz.prog ops₀ = true) (hk₀ : ∀ x ∈ k₀, okItem Tryz.prog x = true)
  (hst : Stand Tryz.prog Shun w.heap.size (o + 1) (G ((base 12).at ⟨T12, []⟩ [.code (Tryz.f12.body.getD .skip)]) (b₀.at a₀ (.inRegion ops₀ (i₀ :: rest₀) :: k₀) :: cs)) w m t) :
  Runs Tryz.prog m t fun m' t' => ∃ w' v' Shun' D' o', On0 BaseB.b0 D' w w' v' /\ Hides (veil D') Shun' /\ o' <= o + 64 /\
   Stand Tryz.prog Shun' w'.heap.size (o' + 1) (G (after b₀ a₀ ops₀ i₀ rest₀ k₀ (.bool true)) cs) w' m' t' := by
 subst hT
 refine (runs_sil (sKn1' (h0 := w.heap)) rfl hst).then fun m1 t1 h1 => ?_
 clear hst
 obtain ⟨g1, w1, ⟨rfl, hh1⟩, ho1, hst1⟩ := h1
 have hon1 := onto_sil (w' := w1) hdk hrel hhid hh1 ho1
 have hsz1 : w1.heap.size = w.heap.size := by rw [hh1]
 rw [<- hsz1] at hst1
 have hwill1 := lift_pre (D := D) (ops := ops12) (l := [0, 1, 2, 3]) (l2 := [4, 5, 6, 7, 8, 9]) (b := base 12) (k := [.code c12]) (cw := b₀.at a₀ (.inRegion ops₀ (i₀ :: rest₀) :: k₀) :: cs) (w := w1) (a := ⟨t12a, []⟩)
  (Φ := fun a' v' => ∃ u x7 x8 x9 b, Rel (veil D) w1 u /\ a' = ⟨t12b x7 x8 x9 b, []⟩ /\ Below u.heap.size u v' /\ v'.heap[b]? = some (.cells (row2 d12a d12b) 52 (0, 0))) rfl rfl oko12 (fun x hx => by rw [List.mem_singleton.1 hx]; exact okc12) ⟨_, hon1.rel⟩
  (fun u hu => pre12' u _ (fun x7 x8 x9 b v' hb _ hrow => ⟨u, x7, x8, x9, b, hu, rfl, hb, hrow⟩))
 refine (runs_will hhid hwill1 hst1).then fun m2 t2 h2 => ?_
 clear hst1 hwill1
 obtain ⟨g2, w2, ⟨a2, v2, rfl, hr2, hs2, _, u1, x7, x8, x9, b, hu1, rfl, hb1, hrow⟩, hst2⟩ := h2
 have hon2 := hon1.trans (onto_lone hon1.dk hon1.rel hhid (Nat.le_trans hB hon1.up) hu1 hr2 hs2 hb1)
 refine (runs_sil (sKn2' (h0 := w2.heap)) rfl hst2).then fun m3 t3 h3 => ?_
 clear hst2
 obtain ⟨g3, w3, ⟨rfl, hh3⟩, ho3, hst3⟩ := h3
 have hon3 := hon2.trans (onto_sil (w' := w3) hon2.dk hon2.rel hhid hh3 ho3)
 have hsz3 : w3.heap.size = w2.heap.size := by rw [hh3]
 rw [<- hsz3] at hst3
 have hB3 : BaseB.b0 <= v2.heap.size := by rw [hon3.rel.size]; exact Nat.le_trans hB hon3.up
 refine (new8_runs (ds := [(d12a, ⟨none, 0, 0⟩), (d12b, ⟨none, 0, 0⟩)]) (cap := 2) (o := o) (b₀ := base 12) (a₀ := ⟨t12b x7 x8 x9 b, []⟩) (ops₀ := ops12) (i₀ := 4) (rest₀ := [5, 6, 7, 8, 9]) (k₀ := [.code c12]) (Nat.le_trans hB hon3.up) hB3 hon3.rel hon3.dk hon3.hid hrow (by simp [row2, accCells]) (by simp [row2, accCells]) (by simp [row2, accCells, Value.oneCell']) (inr_row2 hrow rfl rfl (by decide) (by decide)) ho rfl rfl oko12 (fun x hx => by rw [List.mem_singleton.1 hx]; exact okc12) hst3).then fun m4 t4 h4 => ?_
 clear hst3
 obtain ⟨w4, v4, Shun4, D4, o4, val4, hon4', hres4, ho4, hst4⟩ := h4
 have hon4 := hon3.trans hon4'
 rcases hres4 with ⟨_, pw, pl, L, rfl, hpw, hmade, _, _⟩ | ⟨hno, _⟩
 rotate_left
 ·exact absurd sound12 hno
 rw [act12] at hst4
 have hwill2 := lift_rest_ops (D := D4) (f := 12) (fn := Tryz.f12) (c := c12) (ops := ops12) (l := [5, 6, 7, 8, 9]) (b := base 12) (b₀ := b₀) (a₀ := a₀) (ops₀ := ops₀) (i₀ := i₀) (rest₀ := rest₀) (k₀ := k₀) (cw := cs) (w := w4) (a := ⟨t12c x7 x8 x9 b pw, []⟩)
  (Ψ := fun val v' => val = .bool true /\ ∃ u, Rel (veil D4) w4 u /\ Bz u v')
  rfl TryQ.func12 rfl rfl oko12 okc12 hb₀ ha₀ ho₀ hk₀ ⟨_, hon4.rel⟩ (fun u hu => by
   have htu := tw_rel hon4.dk hon4.rel hu
   obtain ⟨mm, dmb, p1, p2, hkn, hne⟩ := made_kn (hmade.tw htu)
   exact rest12' x7 x8 x9 hkn hne (htu.obj _ _ hpw (.inl trivial)) (by rw [hu.size]; exact Nat.le_trans hB hon4.up) _ (fun v' hz => ⟨rfl, u, hu, hz⟩))
 refine (runs_will hon4.hid hwill2 hst4).mono fun m5 t5 h5 => ?_
 clear hst4 hwill2
 obtain ⟨g5, w5, ⟨val, v5, rfl, hr5, hs5, rfl, u, hu, hz⟩, hst5⟩ := h5
 exact ⟨w5, v5, Shun4, D4, o4, hon4.toOn0.trans (on0_bare hon4.dk hu hr5 hs5 (Nat.le_trans hB hon4.up) hz.toBelow hz.kz), hon4.hid, ho4, hst5⟩
theorem one_runs {Shun : Loc -> Prop} {D : Nat -> Prop} {o B : Nat} {st : ByteArray} (hst0 : st.size <= 1024) {b₀ : Frame} {a₀ : Act} {ops₀ : Array Oper} {i₀ : Nat} {rest₀ : List Nat} {k₀ : List Item} {cs : List Frame} {w v : World} {m : Machine} {t : Trace}
  (hB : B <= w.heap.size) (hB0 : BaseB.b0 <= w.heap.size) (hrel : Rel (veil D) w v) (hdk : Dk B D w) (hhid : Hides (veil D) Shun) (ho : o + 64 < 2147483647)
  (hb₀ : b₀.kind = .normal) (ha₀ : a₀.defers = []) (ho₀ : okOps Tryz.prog ops₀ = true) (hk₀ : ∀ x ∈ k₀, okItem Tryz.prog x = true)
  (hst : Stand Tryz.prog Shun w.heap.size (o + 1) (G ((base 14).at ⟨#[.string st] ++ Array.replicate 15 undef, []⟩ [.code (Tryz.f14.body.getD .skip)]) (b₀.at a₀ (.inRegion ops₀ (i₀ :: rest₀) :: k₀) :: cs)) w m t) :
  Runs Tryz.prog m t fun m' t' => ∃ w' v' Shun' D' o' pw pl L, OnTo B Shun' D' w w' v v' /\ o' <= o + 64 /\ v'.heap[pw]? = some (.cells #[.pointer (some ⟨pl, 0, none⟩)] 87 (0, 0)) /\ MadeL v' pl [(d14a, ⟨none, 0, 0⟩), (d14b st, ⟨none, 0, 0⟩)] L /\
   Stand Tryz.prog Shun' w'.heap.size (o' + 1) (G (after b₀ a₀ ops₀ i₀ rest₀ k₀ (.pointer (some ⟨pw, 0, none⟩))) cs) w' m' t' := by
 refine (runs_sil (sOn1 (h0 := w.heap)) rfl hst).then fun m1 t1 h1 => ?_
 clear hst
 obtain ⟨g1, w1, ⟨rfl, hh1⟩, ho1, hst1⟩ := h1
 have hon1 := onto_sil (w' := w1) hdk hrel hhid hh1 ho1
 have hsz1 : w1.heap.size = w.heap.size := by rw [hh1]
 rw [<- hsz1] at hst1
 have hwill1 := lift_pre (D := D) (ops := ops14) (l := [0, 1, 2, 3, 4, 5]) (l2 := [6, 7, 8, 9, 10, 11]) (b := base 14) (k := [.code c14]) (cw := b₀.at a₀ (.inRegion ops₀ (i₀ :: rest₀) :: k₀) :: cs) (w := w1) (a := ⟨#[.string st, undef, .pointer none, undef, undef, undef, undef, undef, undef, undef, undef, undef, undef, undef, undef, undef], []⟩)
  (Φ := fun a' v' => ∃ u x6 x7 x8 x9 x10 b, Rel (veil D) w1 u /\ a' = ⟨#[.string st, undef, .pointer none, undef, undef, undef, x6, x7, x8, x9, x10, .slice (some ⟨b, 0, none⟩) 2 2, undef, undef, undef, undef], []⟩ /\ Below u.heap.size u v' /\ v'.heap[b]? = some (.cells (row2 d14a (d14b st)) 52 (0, 0))) rfl rfl oko14 (fun x hx => by rw [List.mem_singleton.1 hx]; exact okc14) ⟨_, hon1.rel⟩
  (fun u hu => pre14 u st _ (fun x6 x7 x8 x9 x10 b v' hb _ hrow => ⟨u, x6, x7, x8, x9, x10, b, hu, rfl, hb, hrow⟩))
 refine (runs_will hhid hwill1 hst1).then fun m2 t2 h2 => ?_
 clear hst1 hwill1
 obtain ⟨g2, w2, ⟨a2, v2, rfl, hr2, hs2, _, u1, x6, x7, x8, x9, x10, b, hu1, rfl, hb1, hrow⟩, hst2⟩ := h2
 have hon2 := hon1.trans (onto_lone hon1.dk hon1.rel hhid (Nat.le_trans hB hon1.up) hu1 hr2 hs2 hb1)
 refine (runs_sil (sOn2 (h0 := w2.heap)) rfl hst2).then fun m3 t3 h3 => ?_
 clear hst2
 obtain ⟨g3, w3, ⟨rfl, hh3⟩, ho3, hst3⟩ := h3
 have hon3 := hon2.trans (onto_sil (w' := w3) hon2.dk hon2.rel hhid hh3 ho3)
 have hsz3 : w3.heap.size = w2.heap.size := by rw [hh3]
 rw [<- hsz3] at hst3
 have hB3 : BaseB.b0 <= v2.heap.size := by rw [hon3.rel.size]; exact Nat.le_trans hB0 hon3.up
 refine (new8_runs (ds := [(d14a, ⟨none, 0, 0⟩), (d14b st, ⟨none, 0, 0⟩)]) (cap := 2) (o := o) (b₀ := base 14) (a₀ := ⟨#[.string st, undef, .pointer none, undef, undef, undef, x6, x7, x8, x9, x10, .slice (some ⟨b, 0, none⟩) 2 2, undef, undef, undef, undef], []⟩) (ops₀ := ops14) (i₀ := 6) (rest₀ := [7, 8, 9, 10, 11]) (k₀ := [.code c14]) (Nat.le_trans hB hon3.up) hB3 hon3.rel hon3.dk hon3.hid hrow (by simp [row2, accCells]) (by simp [row2, accCells]) (by simp [row2, accCells, Value.oneCell']) (inr_row2 hrow rfl rfl (by decide) (by show 50 < M; decide)) ho rfl rfl oko14 (fun x hx => by rw [List.mem_singleton.1 hx]; exact okc14) hst3).then fun m4 t4 h4 => ?_
 clear hst3
 obtain ⟨w4, v4, Shun4, D4, o4, val4, hon4', hres4, ho4, hst4⟩ := h4
 have hon4 := hon3.trans hon4'
 rcases hres4 with ⟨_, pw, pl, L, rfl, hpw, hmade, _, _⟩ | ⟨hno, _⟩
 rotate_left
 ·exact absurd (sound14 st hst0) hno
 have hact : after (base 14) ⟨#[.string st, undef, .pointer none, undef, undef, undef, x6, x7, x8, x9, x10, .slice (some ⟨b, 0, none⟩) 2 2, undef, undef, undef, undef], []⟩ ops14 6 [7, 8, 9, 10, 11] [.code c14] (.tuple #[.pointer (some ⟨pw, 0, none⟩), .nilIface]) = (base 14).at ⟨#[.string st, undef, .pointer none, undef, undef, undef, x6, x7, x8, x9, x10, .slice (some ⟨b, 0, none⟩) 2 2, .tuple #[.pointer (some ⟨pw, 0, none⟩), .nilIface], undef, undef, undef], []⟩ (.inRegion ops14 [7, 8, 9, 10, 11] :: [.code c14]) := rfl
 rw [hact] at hst4
 clear hact
 have hwill2 := lift_rest_ops (D := D4) (f := 14) (fn := Tryz.f14) (c := c14) (ops := ops14) (l := [7, 8, 9, 10, 11]) (b := base 14) (b₀ := b₀) (a₀ := a₀) (ops₀ := ops₀) (i₀ := i₀) (rest₀ := rest₀) (k₀ := k₀) (cw := cs) (w := w4) (a := ⟨#[.string st, undef, .pointer none, undef, undef, undef, x6, x7, x8, x9, x10, .slice (some ⟨b, 0, none⟩) 2 2, .tuple #[.pointer (some ⟨pw, 0, none⟩), .nilIface], undef, undef, undef], []⟩)
  (Ψ := fun val v' => val = .pointer (some ⟨pw, 0, none⟩) /\ Rel (veil D4) w4 v')
  rfl TryQ.func14 rfl rfl oko14 okc14 hb₀ ha₀ ho₀ hk₀ ⟨_, hon4.rel⟩ (fun u hu => rest14 u st x6 x7 x8 x9 x10 _ pw _ ⟨rfl, hu⟩)
 refine (runs_will hon4.hid hwill2 hst4).mono fun m5 t5 h5 => ?_
 clear hst4 hwill2
 obtain ⟨g5, w5, ⟨val, v5, rfl, hr5, hs5, rfl, hu⟩, hst5⟩ := h5
 have hon5' := onto_lone hon4.dk hon4.rel hon4.hid (Nat.le_trans hB hon4.up) hu hr5 hs5 (Below.refl _ _)
 exact ⟨w5, v5, Shun4, D4, o4, pw, pl, L, hon4.trans hon5', ho4, hon5'.tw.obj _ _ hpw (.inl trivial), hmade.tw hon5'.tw, hst5⟩
end Go.Mark
