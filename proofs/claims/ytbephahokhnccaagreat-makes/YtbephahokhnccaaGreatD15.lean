/-
  findMarks beside leavers: a contract of its own.
-/
import Derived.Test.YtbephahokhnccaaGreatXD12toD14
set_option linter.unusedSectionVars false
namespace Go.Mark
open Go.Conc Go.Walk Go.Phase Go.RowKit Go.Conc.Lib Go.ConcR.Gen Go.ConcN.Gen Go.Lift Go.Proofs
open Go.ConcN (WgLive Has RW DWs AtR0 PayAt)
open Go.ConcR (KK WgAt stA smA rd wr mk Payload)
section
variable {Shun : Loc → Prop} {h : Array Obj} {bm C n : Nat} {acc : Value} {T : Array Value} {b₀ : Frame} {a₀ : Act} {ops₀ : Array Oper} {i₀ : Nat} {rest₀ : List Nat} {k₀ : List Item} {cs : List Frame}
set_option maxRecDepth 100000 in
set_option maxHeartbeats 4000000 in
theorem post_goes (hT : Tmp25 bm acc T) (hb : h[bm]? = some (.cells #[sl C n] 80)) (hS : ∀ k, ¬ Shun (.cell ⟨bm, k, none⟩)) :
    GoW Tryz.prog true AtRel (DX Shun) (fun g w => g = G (b₀.at (a₀.put ((ops₀[i₀]?).bind (·.dst)) (sl C n)) (.inRegion ops₀ rest₀ :: k₀)) cs ∧ w.heap = h) (fun w => w.heap = h) 30 (G (fr25' T) (b₀.at a₀ (.inRegion ops₀ (i₀ :: rest₀) :: k₀) :: cs)) := by
  have E := envH (Shun := Shun) h
  obtain ⟨h1, h2, h3⟩ := hT
  obtain ⟨v0, v1, v2, v3, v4, v5, v6, v7, v8, v9, v10, v11, v12, v13, v14, v15, v16, v17, v18, v19, v20, v21, rfl⟩ := array22 T h1
  simp only [List.getElem?_toArray, List.getElem?_cons_succ, List.getElem?_cons_zero, Option.some.injEq] at h2 h3
  subst h3
  clear h1 h2
  unfold fr25'
  refine gw_region_end E ?_
  simp only [fin25, rest25, Tryz.f25]
  have hc : ∀ w : World, w.heap = h → w.cell? ⟨bm, 0, none⟩ = some (sl C n) := fun w hw => by rw [← hw] at hb; exact cell_of hb
  repeat (first
    | refine gw_seq E ?_
    | refine gw_region_end E ?_
    | refine gw_region_2 E ?_
    | refine gw_ret E ?_
    | (refine gw_reads E rfl rfl (by k_ne) (fun w hw => (run_load1 rfl rfl Tryz.sizeOf80 Tryz.isAgg80 (hc w hw)).1) (fun w hw => ⟨Nat.le_refl _, (fun e he => by have he := mem_listed he; rw [(run_load1 rfl rfl Tryz.sizeOf80 Tryz.isAgg80 (hc w hw)).2, Array.mem_singleton] at he; subst he; exact evX_own (hS 0) (by rw [← hw] at hb; exact lt_of_heap hb)), rfl, rfl⟩) ?_; walk_nrm)
    | (refine gw_opk E rfl rfl (by k_ne) (fun w hF K hK => ?_); go_simp; refine hK _ (by simp [go_sem, *]) ?_; clear hK K hF w; try w_num))
  refine gw_leave1 E rfl rfl Tryz.func25 rfl ?_
  exact gw_stop E (fun w hw => ⟨rfl, hw⟩)
end
/-- goroutine 0's own steps, beside leavers -/
theorem runs_of {Shun : Loc → Prop} {D : World → World → Array Event → Prop} {Stop : Goroutine → World → Prop} {β : World → Nat} (hβ : ∀ w d, β (w.at d) = β w) (hD : ∀ w w' es, D w w' es → β w ≤ β w' ∧ ∀ e ∈ es, EvX Shun (β w') e) {a : Goroutine} {w : World} {k N : Nat} {m : Machine} {t : Trace}
    (hg : Goes Tryz.prog true AtRel D Stop k a w) (hs : Stand Tryz.prog Shun (β w) N a w m t) : Runs Tryz.prog m t fun m' t' => ∃ a' w', Stop a' w' ∧ Stand Tryz.prog Shun (β w') N a' w' m' t' :=
  will_runs hβ hD (will_of_goes _ _ _ hg) ⟨w.drawn, rfl⟩ hs
theorem goes_os {P : Program} {main : Bool} {D : World → World → Array Event → Prop} {Stop : Goroutine → World → Prop} (hO : ∀ w w' es, D w w' es → w'.os = w.os ∧ w'.output = w.output) (x : World) : ∀ (n : Nat) (a : Goroutine) (w : World), (w.os = x.os ∧ w.output = x.output) → Goes P main AtRel D Stop n a w → Goes P main AtRel D (fun g w₁ => Stop g w₁ ∧ w₁.os = x.os ∧ w₁.output = x.output) n a w
  | 0, _, w, hw, hg => fun w₁ h₁ => ⟨hg w₁ h₁, by obtain ⟨d, rfl⟩ := h₁; exact hw⟩
  | n + 1, a, w, hw, hg => by
    rcases hg with hg | ⟨hrun, hg⟩
    · exact .inl fun w₁ h₁ => ⟨hg w₁ h₁, by obtain ⟨d, rfl⟩ := h₁; exact hw⟩
    · refine .inr ⟨hrun, fun w₁ h₁ => ?_⟩
      have hg := hg w₁ h₁
      have hw1 : w₁.os = x.os ∧ w₁.output = x.output := by obtain ⟨d, rfl⟩ := h₁; exact hw
      generalize stepG P main a w₁ = st at hg
      cases st with
      | go g w' es =>
        simp only [goes_go] at hg ⊢
        exact ⟨hg.1, goes_os hO x n g w' ⟨(hO _ _ _ hg.1).1.trans hw1.1, (hO _ _ _ hg.1).2.trans hw1.2⟩ hg.2⟩
      | _ => exact hg.elim
theorem runs_os {Shun : Loc → Prop} {D : World → World → Array Event → Prop} {Stop : Goroutine → World → Prop} {β : World → Nat} (hβ : ∀ w d, β (w.at d) = β w) (hD : ∀ w w' es, D w w' es → β w ≤ β w' ∧ ∀ e ∈ es, EvX Shun (β w') e) (hO : ∀ w w' es, D w w' es → w'.os = w.os ∧ w'.output = w.output) {a : Goroutine} {w : World} {k N : Nat} {m : Machine} {t : Trace}
    (hg : Goes Tryz.prog true AtRel D Stop k a w) (hs : Stand Tryz.prog Shun (β w) N a w m t) : Runs Tryz.prog m t fun m' t' => ∃ a' w', Stop a' w' ∧ (w'.os = w.os ∧ w'.output = w.output) ∧ Stand Tryz.prog Shun (β w') N a' w' m' t' :=
  (runs_of hβ hD (goes_os hO w _ _ _ ⟨rfl, rfl⟩ hg) hs).mono fun _ _ ⟨a', w', ⟨h1, h2⟩, h3⟩ => ⟨a', w', h1, h2, h3⟩
/-- what is asked of the accounts at the call -/
structure Acc0 (Shun : Loc → Prop) (bacc n : Nat) (X : Array Value) (code : Nat → ByteArray) (w : World) : Prop where
  row : w.heap[bacc]? = some (.cells X 31)
  size : n * 8 ≤ X.size
  one : X.all (·.oneCell') = true
  cod : ∀ i, i < n → X[i * 8 + 6]? = some (.string (code i))
  short : ∀ i, i < n → (code i).size < 2147483648
  n31 : n < 2147483648
  sh : ∀ a : Addr, a.block = bacc → ¬ Shun (.cell a)
  low : ∀ l, Shun l → ∃ a : Addr, l = .cell a ∧ a.block < w.heap.size
/-- what is there behind findMarks -/
structure Found (n : Nat) (code : Nat → ByteArray) (w w' : World) : Prop where
  frame : ∀ b, b < w.heap.size → w'.heap[b]? = w.heap[b]?
  grown : w.heap.size + 3 ≤ w'.heap.size
  pay : ∃ cs, w'.heap[w.heap.size]? = some (.cells cs 90) ∧ cs.size = n
  cell : ∀ i, i < n → ∃ b, w.heap.size ≤ b ∧ w'.heap[b]? = some (.cells (marks (code i) (code i).size 0 (zeros (code i).size)) 4) ∧ w'.cell? ⟨w.heap.size, i, none⟩ = some (sl b (code i).size)
  tidy : ∀ (b : Nat) (o : Obj), w.heap.size ≤ b → w'.heap[b]? = some o → ∃ x e, o = .cells x e
  os : w'.os = w.os ∧ w'.output = w.output
theorem h4_old {h0 : Array Obj} {n b : Nat} (hb : b < h0.size) : (h4 h0 n)[b]? = h0[b]? := by
  unfold h4 h3
  rw [Array.getElem?_push, if_neg (by simp; omega), Array.getElem?_push, if_neg (by simp; omega), Array.getElem?_push, if_neg (by omega)]
theorem h4_size (h0 : Array Obj) (n : Nat) : (h4 h0 n).size = h0.size + 3 := by simp [h4, h3]
theorem h4_C (h0 : Array Obj) (n : Nat) : (h4 h0 n)[h0.size]? = some (.cells (zerosM n) 90) := by
  unfold h4 h3
  rw [Array.getElem?_push, if_neg (by simp; omega), Array.getElem?_push, if_neg (by simp), Array.getElem?_push_size]
theorem h4_m (h0 : Array Obj) (n : Nat) : (h4 h0 n)[h0.size + 1]? = some (.cells #[sl h0.size n] 80) := by
  unfold h4 h3
  rw [Array.getElem?_push, if_neg (by simp), Array.getElem?_push, if_pos (by simp)]
theorem h4_W (h0 : Array Obj) (n : Nat) : (h4 h0 n)[h0.size + 2]? = some (.cells #[.int .u64 0, .int .u32 0] 116) := by
  unfold h4
  rw [Array.getElem?_push, if_pos (by simp [h3])]
theorem findMarks_runs {Shun : Loc → Prop} {bacc n cap o : Nat} {X : Array Value} {code : Nat → ByteArray} {b₀ : Frame} {a₀ : Act} {ops₀ : Array Oper} {i₀ : Nat} {rest₀ : List Nat} {k₀ : List Item} {cs : List Frame} {w : World} {m : Machine} {t : Trace}
    (A : Acc0 Shun bacc n X code w) (hn : o + n < 2147483647)
    (hst : Stand Tryz.prog Shun w.heap.size (o + 1) (G ((base 25).at ⟨#[.slice (some ⟨bacc, 0, none⟩) n cap] ++ Array.replicate 21 undef, []⟩ [.code (Tryz.f25.body.getD .skip)]) (b₀.at a₀ (.inRegion ops₀ (i₀ :: rest₀) :: k₀) :: cs)) w m t) :
    Runs Tryz.prog m t fun m' t' => ∃ w', Found n code w w' ∧ Stand Tryz.prog (fun l => Shun l ∨ Go.ConcN.ShN (w.heap.size + 2) l) w'.heap.size (o + n + 1) (G (b₀.at (a₀.put ((ops₀[i₀]?).bind (·.dst)) (sl w.heap.size n)) (.inRegion ops₀ rest₀ :: k₀)) cs) w' m' t' := by
  have hnew : ∀ b k, w.heap.size ≤ b → ¬ Shun (.cell ⟨b, k, none⟩) := fun b k hb hs => by
    obtain ⟨a, e, hlt⟩ := A.low _ hs
    cases e
    simp only at hlt
    omega
  refine (runs_os (D := DX Shun) (β := fun w => w.heap.size) (fun _ _ => rfl) (fun _ _ _ h => ⟨h.1, h.2.1⟩) (fun _ _ _ h => h.2.2) (pre_goes A.n31 (fun k => hnew _ k (by omega)) w rfl) hst).then fun m1 t1 h1 => ?_
  obtain ⟨a1, w1, ⟨rfl, hh1⟩, ho1, hst1⟩ := h1
  have hsz1 : w1.heap.size = w.heap.size + 2 := by rw [hh1]; simp [h3]
  refine (runs_os (D := DSil) (β := fun _ => w.heap.size + 2) (fun _ _ => rfl) (fun _ _ es h => ⟨Nat.le_refl _, fun e he => by rw [h.1] at he; simp at he⟩) (fun _ _ _ h => h.2) (wg_goes (h0 := w.heap) w1 hh1) (by rw [hsz1] at hst1; exact hst1)).then fun m2 t2 h2 => ?_
  obtain ⟨a2, w2, ⟨rfl, hh2⟩, ho2, hst2⟩ := h2
  have hb : bacc < w.heap.size := lt_of_heap A.row
  have hsz2 : w2.heap.size = w.heap.size + 3 := by rw [hh2, h4_size]
  have AA : Acc (cfg25 (w.heap.size + 2) w.heap.size n w.heap.size o Shun (w.heap.size + 1) bacc cap X code (b₀.at a₀ (.inRegion ops₀ (i₀ :: rest₀) :: k₀) :: cs)) (w.heap.size + 1) bacc X code := by
    refine ⟨⟨fun q hq => ?_, fun q hq => ?_, fun q hq => ?_, fun q hq a ha => ?_⟩, A.size, A.one, A.cod, A.short, fun i hi w b h1 h2 => ⟨h1, h2⟩, A.n31, by show w.heap.size ≤ w.heap.size + 1; omega⟩ <;> simp only [bs0, List.mem_cons, List.not_mem_nil, or_false] at hq <;> rcases hq with rfl | rfl
    · show bacc ≠ w.heap.size + 2; omega
    · show w.heap.size + 1 ≠ w.heap.size + 2; omega
    · show bacc ≠ w.heap.size; omega
    · show w.heap.size + 1 ≠ w.heap.size; omega
    · show (31 : Nat) ≠ 4; decide
    · show (80 : Nat) ≠ 4; decide
    · exact A.sh a ha
    · intro hs
      obtain ⟨a', e, hlt⟩ := A.low _ hs
      cases e
      simp only at ha
      omega
  refine (phase25 (Wg := w.heap.size + 2) (C := w.heap.size) (n := n) (bse := w.heap.size) (o := o) (Shun := Shun) (bm := w.heap.size + 1) (bacc := bacc) (cap := cap) (X := X) (code := code) (by omega) (Nat.le_refl _) (by omega) A.low AA hn (w := w2) (by omega) (by omega) (fun q hq => ?_) ?_ ?_ (fun b o' hb' ho => ?_) (B0 := w.heap.size + 2) (Nat.le_refl _) hst2).then fun m3 t3 h3' => ?_
  · simp only [bs0, List.mem_cons, List.not_mem_nil, or_false] at hq
    rcases hq with rfl | rfl
    · show w2.heap[bacc]? = _
      rw [hh2, h4_old hb]
      exact A.row
    · show w2.heap[w.heap.size + 1]? = _
      rw [hh2, h4_m]
      rfl
  · show w2.heap[w.heap.size + 2]? = _
    rw [hh2, h4_W]
    rfl
  · exact ⟨_, by rw [hh2, h4_C]; rfl, size_madeCells _ _⟩
  · replace hb' : w.heap.size ≤ b := hb'
    have hlt := lt_of_heap ho
    rw [hsz2] at hlt
    rw [hh2] at ho
    rcases (by omega : b = w.heap.size ∨ b = w.heap.size + 1 ∨ b = w.heap.size + 2) with rfl | rfl | rfl
    · rw [h4_C] at ho; cases ho; exact ⟨_, _, rfl⟩
    · rw [h4_m] at ho; cases ho; exact ⟨_, _, rfl⟩
    · rw [h4_W] at ho; cases ho; exact ⟨_, _, rfl⟩
  obtain ⟨T, w3, hT, M, hst3⟩ := h3'
  have hbm : w3.heap[w.heap.size + 1]? = some (.cells #[sl w.heap.size n] 80) := M.rows ⟨w.heap.size + 1, #[sl w.heap.size n], 80⟩ (List.mem_cons_of_mem _ List.mem_cons_self)
  refine (runs_os (D := DX _) (β := fun w => w.heap.size) (fun _ _ => rfl) (fun _ _ _ h => ⟨h.1, h.2.1⟩) (fun _ _ _ h => h.2.2) (post_goes hT hbm (fun k hs => ?_) w3 rfl) hst3).mono fun m4 t4 h4' => ?_
  · rcases hs with hs | ⟨a, e, hb⟩
    · exact hnew _ k (by omega) hs
    · cases e
      simp only at hb
      change w.heap.size + 1 = w.heap.size + 2 at hb
      omega
  obtain ⟨a4, w4, ⟨rfl, hh4⟩, ho4, hst4⟩ := h4'
  have hc : ∀ b : Nat, w4.heap[b]? = w3.heap[b]? := fun b => by rw [hh4]
  have hce : ∀ ad, w4.cell? ad = w3.cell? ad := fun ad => by simp only [World.cell?, hh4]
  refine ⟨w4, ⟨fun b hb' => ?_, ?_, ?_, fun i hi => ?_, fun b o' hb' ho => M.tidy b o' hb' ((hc b).symm.trans ho), ⟨((ho4.1.trans M.os.1).trans ho2.1).trans ho1.1, ((ho4.2.trans M.os.2).trans ho2.2).trans ho1.2⟩⟩, hst4⟩
  · rw [hc, M.frame b hb', hh2, h4_old hb']
  · have := M.low.2.1
    rw [hh4]
    exact this
  · obtain ⟨x, h1, h2⟩ := M.pay
    exact ⟨x, (hc _).trans h1, h2⟩
  · obtain ⟨b, h1, _, h3, h4⟩ := M.out i hi
    exact ⟨b, h1, (hc b).trans h3, (hce _).trans h4⟩
end Go.Mark
