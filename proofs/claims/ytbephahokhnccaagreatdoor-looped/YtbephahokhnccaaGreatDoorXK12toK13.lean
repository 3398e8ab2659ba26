import Derived.Test.YtbephahokhnccaaGreatDoorXH6toK11
set_option linter.unusedSectionVars false
set_option maxRecDepth 100000
set_option maxHeartbeats 2000000
namespace Go.Mark
open Go.RowKit Go.Proofs
variable [BaseB]
attribute [local go_sem] wd
def w4 (x : Nat) : List Value := [.int .u64 (lim x 0), .int .u64 (lim x 1), .int .u64 (lim x 2), .int .u64 (lim x 3)]
def fw : List Nat -> List Value
 | [] => []
 | x :: l => w4 x ++ fw l
theorem fw_len : ∀ l : List Nat, (fw l).length = l.length * 4
 | [] => rfl
 | x :: l => by simp only [fw, List.length_append, fw_len l, List.length_cons, w4, List.length_nil]; omega
theorem fw_app : ∀ a b : List Nat, fw (a ++ b) = fw a ++ fw b
 | [], _ => rfl
 | x :: a, b => by simp only [List.cons_append, fw, fw_app a b, List.append_assoc]
theorem fw_at : ∀ (l : List Nat) (i : Nat) (x : Nat), l[i]? = some x -> ∀ j, j < 4 -> (fw l)[i * 4 + j]? = (w4 x)[j]?
 | [], _, _, h, _, _ => by simp at h
 | y :: l, 0, x, h, j, hj => by
  simp only [List.getElem?_cons_zero, Option.some.injEq] at h
  subst h
  simp only [fw, Nat.zero_mul, Nat.zero_add]
  exact List.getElem?_append_left (by simpa [w4] using hj)
 | y :: l, i + 1, x, h, j, hj => by
  simp only [List.getElem?_cons_succ] at h
  simp only [fw]
  rw [List.getElem?_append_right (by simp [w4]; omega)]
  rw [show (i + 1) * 4 + j - (w4 y).length = i * 4 + j by simp [w4]; omega]
  exact fw_at l i x h j hj
theorem info41 : ∃ i z, TryQ.prog.info? 41 = some i /\ i.zero = some z /\ i.size = 4 /\ i.bytes = 32 /\ z.cells.size = 4 := by
 obtain ⟨i, hi⟩ : ∃ i, TryQ.prog.info? 41 = some i := by
  cases h : TryQ.prog.info? 41 with
  | none => have := congrArg Option.isSome h; rw [show (TryQ.prog.info? 41).isSome = true by kernel_rfl] at this; cases this
  | some i => exact ⟨i, rfl⟩
 have e8 : (TryQ.prog.info? 41).map (·.size) = some 4 := by kernel_rfl
 have e64 : (TryQ.prog.info? 41).map (·.bytes) = some 32 := by kernel_rfl
 have ez : ((TryQ.prog.info? 41).bind (·.zero)).map (·.cells.size) = some 4 := by kernel_rfl
 rw [hi] at e8 e64 ez
 simp only [Option.map_some, Option.some.injEq, Option.bind_some] at e8 e64 ez
 cases hz : i.zero with
 | none => rw [hz] at ez; cases ez
 | some z => rw [hz] at ez; exact ⟨i, z, hi, hz, e8, e64, by simpa using ez⟩
structure Stk (W : World) (sv : SV) (S : List Nat) : Prop where
 own : W.ownsRow BaseB.b0 41 4 (.slice sv.a sv.n sv.c) S.length (fw S)
 num : S.length < 100000
 low : BaseB.b0 <= W.heap.size
theorem Stk.n {W : World} {sv : SV} {S : List Nat} (h : Stk W sv S) : sv.n = S.length := by
 rcases h.own.2 with ⟨h1, h2⟩ | ⟨g, cap, cur, h1, _⟩
 ·simp only [Value.slice.injEq] at h1; omega
 ·simp only [Value.slice.injEq] at h1; exact h1.2.1
theorem Stk.cells {W : World} {sv : SV} {S : List Nat} (h : Stk W sv S) {j x : Nat} (hj : S[j]? = some x) : ∃ g, sv.a = some ⟨g, 0, none⟩ /\ g < W.heap.size /\ W.cell? ⟨g, j * 4, none⟩ = some (.int .u64 (lim x 0)) /\ W.cell? ⟨g, j * 4 + 1, none⟩ = some (.int .u64 (lim x 1)) /\ W.cell? ⟨g, j * 4 + 2, none⟩ = some (.int .u64 (lim x 2)) /\ W.cell? ⟨g, j * 4 + 3, none⟩ = some (.int .u64 (lim x 3)) := by
 have hjl := (List.getElem?_eq_some_iff.1 hj).1
 rcases h.own.2 with ⟨_, h2⟩ | ⟨g, cap, cur, h1, _, hg, hnc, _, hcs, ht⟩
 ·omega
 ·simp only [Value.slice.injEq] at h1
  have hc : ∀ i, i < 4 -> W.cell? ⟨g, j * 4 + i, none⟩ = (w4 x)[i]? := fun i hi => by
   rw [blk_cell hg, <- fw_at S j x hj i hi, <- ht, List.getElem?_take_of_lt (by omega), Array.getElem?_toList]
  exact ⟨g, h1.1, blk_lt hg, hc 0 (by omega), hc 1 (by omega), hc 2 (by omega), hc 3 (by omega)⟩
theorem Stk.pres {W W' : World} {sv : SV} {S : List Nat} (h : Stk W sv S) {B : List Nat} {T : List TypeId} (hp : Pres B T W W') (hT : 41 ∉ T) (hB : ∀ k ∈ B, ∀ o, W.heap[k]? = some o -> ∃ c t f, o = .cells c t f /\ t ≠ 41) : Stk W' sv S :=
 ⟨own_same h.own fun g hg => by
  obtain ⟨cur, hc⟩ := own_type h.own g hg
  refine (hp.obj hc hT (fun e => ?_)).trans hc.symm
  obtain ⟨c, t, f, h1, h2⟩ := hB g e _ hc
  cases h1
  exact h2 rfl, h.num, Nat.le_trans h.low hp.size⟩
theorem Stk.below {W W' : World} {sv : SV} {S : List Nat} (h : Stk W sv S) (hb : Below W.heap.size W W') : Stk W' sv S := ⟨own_below h.own hb, h.num, Nat.le_trans h.low hb.size⟩
theorem at319 {W : World} {sv : SV} {S : List Nat} (h : Stk W sv S) (i : Nat) (hi : 0 < i) {j x : Nat} (hj : S[j]? = some x) (hn : S.length = j + i) :
  Calls TryQ.prog 319 #[.slice sv.a sv.n sv.c, .int .i64 (i : Int)] W fun e w' => e = .returned (wd x) /\ Below W.heap.size W w' := by
 obtain ⟨g, ha, hg, c0, c1, c2, c3⟩ := h.cells hj
 have hm := h.num
 have hsn := h.n
 have h1 : (sv.n : Int) - (i : Int) = (j : Int) := by omega
 have h2 : (j : Int) < (sv.n : Int) := by omega
 have h3 : IntKind.i64.wrap (j : Int) = (j : Int) := IntWalk.i64_in _ ⟨by omega, by omega⟩
 rw [ha]
 clear hn hi hm hsn h hj ha
 go_enter TryQ.func319, Tryz.ntmps319
 go_wp2
 simp [bodyPost, results, Tryz.results319, go_sem]
 exact ba
theorem lay300 {W : World} {sv : SV} {S : List Nat} (h : Stk W sv S) {b o : Nat} {c : Array Value} {t : TypeId} (ho : W.heap[b]? = some (.cells c t (0, 0))) (hc : c[o]? = some (.slice sv.a sv.n sv.c)) (ht : t ≠ 41) (x : Nat) (hS : S.length < 99999) :
  Calls TryQ.prog 300 #[.pointer (some ⟨b, o, none⟩), wd x] W fun e w' => ∃ sv' : SV, e = .returned (.tuple #[]) /\ w'.heap[b]? = some (.cells (c.setIfInBounds o (.slice sv'.a sv'.n sv'.c)) t (0, 0)) /\ Stk w' sv' (S ++ [x]) /\ Pres [b] [41] W w' := by
 obtain ⟨i, z, hi, hz, hs, hbb, hzs⟩ := info41
 have hbx : Below W.heap.size W (W.alloc (.cells #[.int .u64 (lim x 0), .int .u64 (lim x 1), .int .u64 (lim x 2), .int .u64 (lim x 3)] 41)) := ba
 have hn := blk_new W (.cells #[.int .u64 (lim x 0), .int .u64 (lim x 1), .int .u64 (lim x 2), .int .u64 (lim x 3)] 41)
 go_enter TryQ.func300, Tryz.ntmps300
 go_wp2_with fail
 change Code.wp _ _ _ _ (W.alloc (.cells #[.int .u64 (lim x 0), .int .u64 (lim x 1), .int .u64 (lim x 2), .int .u64 (lim x 3)] 41))
 refine wp_region_held_drew (S := fun V => V.heap[W.heap.size]? = some (.cells #[.int .u64 (lim x 0), .int .u64 (lim x 1), .int .u64 (lim x 2), .int .u64 (lim x 3)] 41 (0, 0))) (by kernel_rfl) hn (fun hH => ?_)
 refine td (i := 0) (d := some 4) (v := .pointer (some ⟨b, o, none⟩)) rfl rfl (fun V hW => ?_) hH ?_
 ·clear hW hH
  go_simp
 refine td (i := 1) (d := some 5) (v := .pointer (some ⟨b, o, none⟩)) rfl rfl (fun V hW => ?_) hH ?_
 ·clear hW hH
  go_simp
 refine td (i := 2) (d := some 6) (v := .pointer (some ⟨b, o, none⟩)) rfl rfl (fun V hW => ?_) hH ?_
 ·clear hW hH
  go_simp
 refine td (i := 4) (d := some 8) (v := wd x) rfl rfl (fun V hW => ?_) hH ?_
 ·have k0 := blk_cell (hW) 0
  have k1 := blk_cell (hW) 1
  have k2 := blk_cell (hW) 2
  have k3 := blk_cell (hW) 3
  simp only [List.getElem?_toArray, List.getElem?_cons_zero, List.getElem?_cons_succ] at k0 k1 k2 k3
  clear hW hH
  go_simp
 obtain ⟨zB, hzB⟩ : ∃ zB, (W.alloc (.cells #[.int .u64 (lim x 0), .int .u64 (lim x 1), .int .u64 (lim x 2), .int .u64 (lim x 3)] 41)).drew.heap.size = zB := ⟨_, rfl⟩
 have hb1 : Below W.heap.size W (W.alloc (.cells #[.int .u64 (lim x 0), .int .u64 (lim x 1), .int .u64 (lim x 2), .int .u64 (lim x 3)] 41)).drew := hbx.drew
 have ho1 : (W.alloc (.cells #[.int .u64 (lim x 0), .int .u64 (lim x 1), .int .u64 (lim x 2), .int .u64 (lim x 3)] 41)).drew.heap[b]? = _ := (hb1.block _ (blk_lt ho)).trans ho
 have hst1 := h.below hb1
 have c1 : (W.alloc (.cells #[.int .u64 (lim x 0), .int .u64 (lim x 1), .int .u64 (lim x 2), .int .u64 (lim x 3)] 41)).drew.cell? ⟨b, o, none⟩ = some (.slice sv.a sv.n sv.c) := by rw [blk_cell ho1 o]; exact hc
 clear hn hbx
 generalize (W.alloc (.cells #[.int .u64 (lim x 0), .int .u64 (lim x 1), .int .u64 (lim x 2), .int .u64 (lim x 3)] 41)).drew = W1 at hzB hb1 ho1 hst1 c1 hH ⊢
 have hb2 : Below W1.heap.size W1 (W1.alloc (.cells (w4 x).toArray 41)) := ba
 have ho2 := blk_alloc (p := .cells (w4 x).toArray 41) ho1
 have hst2 := hst1.below hb2
 have hn2 : ∀ (j : Nat) (v : Value), (w4 x)[j]? = some v -> (W1.alloc (.cells (w4 x).toArray 41)).cell? ⟨zB, 0 + j, none⟩ = some v := fun j v hj => by rw [<- hzB]; exact cells_new W1 (w4 x) 41 j v hj
 have hp2 : Pres [b] [41] W (W1.alloc (.cells (w4 x).toArray 41)) := .of_below (hb1.trans (hb2.mono hb1.size)) _ _
 have c2 : (W1.alloc (.cells (w4 x).toArray 41)).cell? ⟨b, o, none⟩ = some (.slice sv.a sv.n sv.c) := by rw [blk_cell ho2 o]; exact hc
 have hbl1 := blk_lt ho1
 refine wpAnyH_ready (rs := [3, 5]) (by kernel_rfl) (by simp) ?_
 refine AllReadyH.cons rfl (fun K hK => ?_) (AllReadyH.cons rfl (fun K hK => ?_) AllReadyH.nil)
 ·skip
  go_simp
  refine hK.out _ _ hH (fun hH => ?_)
  clear hK K
  refine r1 (i := 5) rfl (fun K hK => ?_)
  go_simp
  refine hK.out _ (W1.alloc (.cells (w4 x).toArray 41)) ((hb2.block _ (blk_lt hH)).trans hH) (fun hH => ?_)
  clear hK K
  generalize hW2 : W1.alloc (.cells (w4 x).toArray 41) = W2 at hb2 ho2 hst2 hn2 hp2 c2 hH ⊢
  refine r1 (i := 6) rfl (fun K hK => ?_)
  rw [if_pos (by rfl)]
  refine wp_append_keep W2 _ _ 222 rfl BaseB.b0 41 i z 4 32 ((q_underlying 222).trans Tryz.underlying222) hi hz hs hbb hzs (by omega) (.slice sv.a sv.n sv.c) S.length (fw S) rfl hst2.own ⟨zB, 0, none⟩ 1 1 (w4 x) rfl rfl (fun j v hj => by rw [Addr.add_mid]; exact hn2 j v hj) (fun v hv => by simp only [w4, List.mem_cons, List.not_mem_nil, or_false] at hv; rcases hv with rfl | rfl | rfl | rfl <;> rfl) (by omega) (by simp only [maxLen]; omega) (by omega) hst2.low (zB + 1) (by rw [<- hW2]; simp [hzB]) ?_
  intro g n W3 hown3 hgrow hat hlt3 hold3
  have hnb : ∀ k, (Value.slice sv.a sv.n sv.c).ownBlock = some k -> k ≠ b := fun k hk => by
   obtain ⟨cur, hcur⟩ := own_type hst2.own k hk
   exact ty_ne hcur ho2 (fun e => ht e.symm)
  have ho3 : W3.heap[b]? = _ := (hgrow.block b (blk_lt ho2) (fun e => hnb b e.symm rfl)).trans ho2
  have d2 : W3.cell? ⟨b, o, none⟩ = some (.slice sv.a sv.n sv.c) := by rw [blk_cell ho3 o]; exact hc
  have f2 := blk_fz ho3 o
  have hH3 : W3.heap[W.heap.size]? = _ := (hgrow.block _ (blk_lt hH) (fun e => Nat.lt_irrefl _ (own_lt h.own _ e.symm))).trans hH
  refine hK.out _ _ hH3 (fun hH => ?_)
  clear hK K
  refine td (i := 7) (d := some 11) (v := .pointer (some ⟨b, o, none⟩)) rfl rfl (fun V hW => ?_) hH ?_
  ·clear hW hH
   go_simp
  refine r1 (i := 8) rfl (fun K hK => ?_)
  go_simp
  refine hK.out _ _ (blk_set_other hH (by have := blk_lt ho; omega)) (fun hH => ?_)
  clear hK K
  refine wpAnyH_done (by kernel_rfl) ?_ _
  show bodyPost TryQ.prog Tryz.f300 _ Exit.normal _ _
  simp [bodyPost, results, Tryz.results300, go_sem]
  refine ⟨⟨some ⟨g, 0, none⟩, S.length + 1, n⟩, blk_set ho3, ⟨?_, by simp; omega, Nat.le_trans hst2.low (Nat.le_trans hgrow.size (by simp))⟩, ?_⟩
  ·have hl1 : (S ++ [x]).length = S.length + 1 := by simp
   rw [hl1, fw_app]
   have e4 : fw [x] = w4 x := by simp [fw]
   rw [e4]
   exact own_same hown3 fun k hk => heap_setCell_other W3 ⟨b, o, none⟩ k _ (fun e => by
    obtain ⟨cur, hcur⟩ := own_type hown3 k hk
    exact ty_ne hcur ho3 (fun e => ht e.symm) e)
  ·exact hp2.trans (((Pres.grown hgrow hst2.own hold3).mono (fun k _ h => by cases h) (fun t h => h)).trans ((Pres.setCell W3 b o _).mono (fun k _ h => h) (fun t h => by cases h)))
 ·skip
  go_simp
  refine hK.out _ (W1.alloc (.cells (w4 x).toArray 41)) ((hb2.block _ (blk_lt hH)).trans hH) (fun hH => ?_)
  clear hK K c1
  generalize hW2 : W1.alloc (.cells (w4 x).toArray 41) = W2 at hb2 ho2 hst2 hn2 hp2 c2 hH ⊢
  refine r1 (i := 3) rfl (fun K hK => ?_)
  go_simp
  refine hK.out _ _ hH (fun hH => ?_)
  clear hK K
  refine r1 (i := 6) rfl (fun K hK => ?_)
  rw [if_pos (by rfl)]
  refine wp_append_keep W2 _ _ 222 rfl BaseB.b0 41 i z 4 32 ((q_underlying 222).trans Tryz.underlying222) hi hz hs hbb hzs (by omega) (.slice sv.a sv.n sv.c) S.length (fw S) rfl hst2.own ⟨zB, 0, none⟩ 1 1 (w4 x) rfl rfl (fun j v hj => by rw [Addr.add_mid]; exact hn2 j v hj) (fun v hv => by simp only [w4, List.mem_cons, List.not_mem_nil, or_false] at hv; rcases hv with rfl | rfl | rfl | rfl <;> rfl) (by omega) (by simp only [maxLen]; omega) (by omega) hst2.low (zB + 1) (by rw [<- hW2]; simp [hzB]) ?_
  intro g n W3 hown3 hgrow hat hlt3 hold3
  have hnb : ∀ k, (Value.slice sv.a sv.n sv.c).ownBlock = some k -> k ≠ b := fun k hk => by
   obtain ⟨cur, hcur⟩ := own_type hst2.own k hk
   exact ty_ne hcur ho2 (fun e => ht e.symm)
  have ho3 : W3.heap[b]? = _ := (hgrow.block b (blk_lt ho2) (fun e => hnb b e.symm rfl)).trans ho2
  have d2 : W3.cell? ⟨b, o, none⟩ = some (.slice sv.a sv.n sv.c) := by rw [blk_cell ho3 o]; exact hc
  have f2 := blk_fz ho3 o
  have hH3 : W3.heap[W.heap.size]? = _ := (hgrow.block _ (blk_lt hH) (fun e => Nat.lt_irrefl _ (own_lt h.own _ e.symm))).trans hH
  refine hK.out _ _ hH3 (fun hH => ?_)
  clear hK K
  refine td (i := 7) (d := some 11) (v := .pointer (some ⟨b, o, none⟩)) rfl rfl (fun V hW => ?_) hH ?_
  ·clear hW hH
   go_simp
  refine r1 (i := 8) rfl (fun K hK => ?_)
  go_simp
  refine hK.out _ _ (blk_set_other hH (by have := blk_lt ho; omega)) (fun hH => ?_)
  clear hK K
  refine wpAnyH_done (by kernel_rfl) ?_ _
  show bodyPost TryQ.prog Tryz.f300 _ Exit.normal _ _
  simp [bodyPost, results, Tryz.results300, go_sem]
  refine ⟨⟨some ⟨g, 0, none⟩, S.length + 1, n⟩, blk_set ho3, ⟨?_, by simp; omega, Nat.le_trans hst2.low (Nat.le_trans hgrow.size (by simp))⟩, ?_⟩
  ·have hl1 : (S ++ [x]).length = S.length + 1 := by simp
   rw [hl1, fw_app]
   have e4 : fw [x] = w4 x := by simp [fw]
   rw [e4]
   exact own_same hown3 fun k hk => heap_setCell_other W3 ⟨b, o, none⟩ k _ (fun e => by
    obtain ⟨cur, hcur⟩ := own_type hown3 k hk
    exact ty_ne hcur ho3 (fun e => ht e.symm) e)
  ·exact hp2.trans (((Pres.grown hgrow hst2.own hold3).mono (fun k _ h => by cases h) (fun t h => h)).trans ((Pres.setCell W3 b o _).mono (fun k _ h => h) (fun t h => by cases h)))
end Go.Mark
set_option maxRecDepth 100000
set_option maxHeartbeats 2000000
namespace Go.Mark
open Go.RowKit Go.Proofs
variable [BaseB]
attribute [local go_sem] wd
theorem Pres.dr {B : List Nat} {T : List TypeId} {w v : World} (h : Pres B T w v) : Pres B T w v.drew := h.trans (.of_below (Below.refl _ _).drew _ _)
theorem take296 {W : World} {sv : SV} {T : List Nat} {x : Nat} (h : Stk W sv (T ++ [x])) {b o : Nat} {c : Array Value} {t : TypeId} (ho : W.heap[b]? = some (.cells c t (0, 0))) (hc : c[o]? = some (.slice sv.a sv.n sv.c)) (ht : t ≠ 41) :
  Calls TryQ.prog 296 #[.pointer (some ⟨b, o, none⟩)] W fun e w' => e = .returned (wd x) /\ w'.heap[b]? = some (.cells (c.setIfInBounds o (.slice sv.a T.length sv.c)) t (0, 0)) /\ Stk w' ⟨sv.a, T.length, sv.c⟩ T /\ Pres [b] [] W w' := by
 have hlen : (T ++ [x]).length = T.length + 1 := by simp
 have hsn := h.n
 rw [hlen] at hsn
 have hnum := h.num
 rw [hlen] at hnum
 have hcap : T.length <= sv.c := by
  rcases h.own.2 with ⟨_, h2⟩ | ⟨g, cap, cur, h1, _, hg, hnc, _⟩
  ·simp at h2
  ·simp only [Value.slice.injEq] at h1; rw [hlen] at hnc; omega
 obtain ⟨g0, hga, hgl, _⟩ := h.cells (j := T.length) (x := x) (by simp)
 obtain ⟨sa, sn, sc⟩ := sv
 simp only at hga hsn hcap hc ⊢
 subst hga hsn
 have hi1 : ((T.length + 1 : Nat) : Int) - 1 = (T.length : Int) := by omega
 have hi2 : IntKind.i64.wrap (T.length : Int) = (T.length : Int) := IntWalk.i64_in _ ⟨by omega, by omega⟩
 have hi3 : (T.length : Int) <= (sc : Int) := by omega
 have hbx : Below W.heap.size W (W.alloc (.cells #[.int .u64 0, .int .u64 0, .int .u64 0, .int .u64 0] 41)) := ba
 have ho1 := blk_alloc (p := .cells #[.int .u64 0, .int .u64 0, .int .u64 0, .int .u64 0] 41) ho
 have hbl := blk_lt ho
 have c1 : W.cell? ⟨b, o, none⟩ = some (.slice (some ⟨g0, 0, none⟩) (T.length + 1) sc) := by rw [blk_cell ho o]; exact hc
 have hat := at319 (h.below hbx) 1 (by omega) (j := T.length) (x := x) (by simp) (by simp)
 rw [show ((1 : Nat) : Int) = 1 from rfl] at hat
 go_enter TryQ.func296, Tryz.ntmps296
 go_wp2_with fail
 refine hat.mono ?_
 rintro e w1 ⟨rfl, hb1⟩
 clear hat c1
 have ho2 := (hb1.block _ (blk_lt ho1)).trans ho1
 have hb02 : Below W.heap.size W w1 := hbx.trans (hb1.mono hbx.size)
 have hwl : W.heap.size < w1.heap.size := by have := hb1.size; simp at this; omega
 have hbl1 := blk_lt ho2
 have c1 : w1.cell? ⟨b, o, none⟩ = some (.slice (some ⟨g0, 0, none⟩) (T.length + 1) sc) := by rw [blk_cell ho2 o]; exact hc
 have f1 := blk_fz ho2 o
 have hnr := (hb1.block _ (blk_lt (blk_new W (.cells #[.int .u64 0, .int .u64 0, .int .u64 0, .int .u64 0] 41)))).trans (blk_new W (.cells #[.int .u64 0, .int .u64 0, .int .u64 0, .int .u64 0] 41))
 have hbne : b ≠ W.heap.size := by omega
 have hbne' : W.heap.size ≠ b := by omega
 have hsz1 := blk_lt ho2
 have ho3 := blk_alloc (p := .cells #[.int .u64 (lim x 0), .int .u64 (lim x 1), .int .u64 (lim x 2), .int .u64 (lim x 3)] 41) ho2
 have hnr3 := blk_alloc (p := .cells #[.int .u64 (lim x 0), .int .u64 (lim x 1), .int .u64 (lim x 2), .int .u64 (lim x 3)] 41) hnr
 have hx3 := blk_new w1 (.cells #[.int .u64 (lim x 0), .int .u64 (lim x 1), .int .u64 (lim x 2), .int .u64 (lim x 3)] 41)
 have hp3 : Pres [b] [] W (w1.alloc (.cells #[.int .u64 (lim x 0), .int .u64 (lim x 1), .int .u64 (lim x 2), .int .u64 (lim x 3)] 41)) := .of_below (hb02.trans (ba.mono hb02.size)) _ _
 have c3 : (w1.alloc (.cells #[.int .u64 (lim x 0), .int .u64 (lim x 1), .int .u64 (lim x 2), .int .u64 (lim x 3)] 41)).cell? ⟨b, o, none⟩ = some (.slice (some ⟨g0, 0, none⟩) (T.length + 1) sc) := by rw [blk_cell ho3 o]; exact hc
 have f3 := blk_fz ho3 o
 go_wp2_with fail
 clear c1 f1
 change Code.wp _ _ _ _ (w1.alloc (.cells #[.int .u64 (lim x 0), .int .u64 (lim x 1), .int .u64 (lim x 2), .int .u64 (lim x 3)] 41))
 generalize w1.alloc (.cells #[.int .u64 (lim x 0), .int .u64 (lim x 1), .int .u64 (lim x 2), .int .u64 (lim x 3)] 41) = W2 at ho3 hnr3 hx3 hp3 c3 f3 ⊢
 refine wp_meet (fun V => V.heap[b]? = some (.cells (c.setIfInBounds o (.slice (some ⟨g0, 0, none⟩) T.length sc)) t (0, 0)) /\ V.heap[W.heap.size]? = some (.cells #[.int .u64 0, .int .u64 0, .int .u64 0, .int .u64 0] 41 (0, 0)) /\ V.heap[w1.heap.size]? = some (.cells #[.int .u64 (lim x 0), .int .u64 (lim x 1), .int .u64 (lim x 2), .int .u64 (lim x 3)] 41 (0, 0)) /\ Pres [b] [] W V) ?_
 apply Exists.intro
 apply And.intro
 ·skip
  refine wp_region_held_drew (S := fun V => True) (by kernel_rfl) trivial (fun hH => ?_)
  refine td (i := 0) (d := some 8) (v := .pointer (some ⟨b, o, none⟩)) rfl rfl (fun V hW => ?_) hH ?_
  ·clear hW hH
   go_simp
  refine td (i := 1) (d := some 9) (v := .pointer (some ⟨b, o, none⟩)) rfl rfl (fun V hW => ?_) hH ?_
  ·clear hW hH
   go_simp
  refine td (i := 2) (d := some 10) (v := .pointer (some ⟨b, o, none⟩)) rfl rfl (fun V hW => ?_) hH ?_
  ·clear hW hH
   go_simp
  refine td (i := 4) (d := some 12) (v := .pointer (some ⟨b, o, none⟩)) rfl rfl (fun V hW => ?_) hH ?_
  ·clear hW hH
   go_simp
  refine td (i := 5) (d := some 13) (v := .pointer (some ⟨b, o, none⟩)) rfl rfl (fun V hW => ?_) hH ?_
  ·clear hW hH
   go_simp
  refine wpAnyH_ready (rs := [3, 6]) (by kernel_rfl) (by simp) ?_
  refine AllReadyH.cons rfl (fun K hK => ?_) (AllReadyH.cons rfl (fun K hK => ?_) AllReadyH.nil)
  ·skip
   go_simp
   refine hK.out _ _ trivial (fun hH => ?_)
   clear hK K
   refine r1 (i := 6) rfl (fun K hK => ?_)
   go_simp
   refine hK.out _ _ trivial (fun hH => ?_)
   clear hK K
   refine td (i := 7) (d := some 15) (v := .int .i64 ((T.length + 1 : Nat) : Int)) rfl rfl (fun V hW => ?_) hH ?_
   ·clear hW hH
    go_simp
   refine td (i := 8) (d := some 16) (v := .int .i64 (T.length : Int)) rfl rfl (fun V hW => ?_) hH ?_
   ·clear hW hH
    go_simp
   refine td (i := 9) (d := some 17) (v := .slice (some ⟨g0, 0, none⟩) T.length sc) rfl rfl (fun V hW => ?_) hH ?_
   ·clear hW hH
    go_simp
   refine td (i := 10) (d := some 18) (v := .pointer (some ⟨b, o, none⟩)) rfl rfl (fun V hW => ?_) hH ?_
   ·clear hW hH
    go_simp
   refine r1 (i := 11) rfl (fun K hK => ?_)
   go_simp
   refine hK.out _ _ trivial (fun hH => ?_)
   clear hK K
   refine wpAnyH_done (by kernel_rfl) ?_ _
   exact ⟨rfl, rfl, blk_set ho3, blk_set_other hnr3 hbne', blk_set_other hx3 (by omega), (hp3.trans (Pres.setCell _ b o _)).dr⟩
  ·skip
   go_simp
   refine hK.out _ _ trivial (fun hH => ?_)
   clear hK K
   refine td (i := 7) (d := some 15) (v := .int .i64 ((T.length + 1 : Nat) : Int)) rfl rfl (fun V hW => ?_) hH ?_
   ·clear hW hH
    go_simp
   refine td (i := 8) (d := some 16) (v := .int .i64 (T.length : Int)) rfl rfl (fun V hW => ?_) hH ?_
   ·clear hW hH
    go_simp
   refine r1 (i := 3) rfl (fun K hK => ?_)
   go_simp
   refine hK.out _ _ trivial (fun hH => ?_)
   clear hK K
   refine td (i := 9) (d := some 17) (v := .slice (some ⟨g0, 0, none⟩) T.length sc) rfl rfl (fun V hW => ?_) hH ?_
   ·clear hW hH
    go_simp
   refine td (i := 10) (d := some 18) (v := .pointer (some ⟨b, o, none⟩)) rfl rfl (fun V hW => ?_) hH ?_
   ·clear hW hH
    go_simp
   refine r1 (i := 11) rfl (fun K hK => ?_)
   go_simp
   refine hK.out _ _ trivial (fun hH => ?_)
   clear hK K
   refine wpAnyH_done (by kernel_rfl) ?_ _
   exact ⟨rfl, rfl, blk_set ho3, blk_set_other hnr3 hbne', blk_set_other hx3 (by omega), (hp3.trans (Pres.setCell _ b o _)).dr⟩
 ·skip
  rintro V ⟨ho4, hn4, hx4, hp4⟩
  have z0 := blk_cell hn4 0
  have z1 := blk_cell hn4 1
  have z2 := blk_cell hn4 2
  have z3 := blk_cell hn4 3
  have y0 := blk_fz hn4 0
  have y1 := blk_fz hn4 1
  have y2 := blk_fz hn4 2
  have y3 := blk_fz hn4 3
  have x0 := blk_cell hx4 0
  have x1 := blk_cell hx4 1
  have x2 := blk_cell hx4 2
  have x3 := blk_cell hx4 3
  simp only [List.getElem?_toArray, List.getElem?_cons_zero, List.getElem?_cons_succ] at z0 z1 z2 z3 x0 x1 x2 x3
  go_wp2
  have hn5 := blk_set4 (.int .u64 (lim x 0)) (.int .u64 (lim x 1)) (.int .u64 (lim x 2)) (.int .u64 (lim x 3)) hn4
  have hp5 := pres_set4 V W.heap.size (.int .u64 (lim x 0)) (.int .u64 (lim x 1)) (.int .u64 (lim x 2)) (.int .u64 (lim x 3))
  generalize (((V.setCell ⟨W.heap.size, 0, none⟩ (.int .u64 (lim x 0))).setCell ⟨W.heap.size, 1, none⟩ (.int .u64 (lim x 1))).setCell ⟨W.heap.size, 2, none⟩ (.int .u64 (lim x 2))).setCell ⟨W.heap.size, 3, none⟩ (.int .u64 (lim x 3)) = V5 at hn5 hp5 ⊢
  clear z0 z1 z2 z3 y0 y1 y2 y3 x0 x1 x2 x3
  have z0 := blk_cell hn5 0
  have z1 := blk_cell hn5 1
  have z2 := blk_cell hn5 2
  have z3 := blk_cell hn5 3
  simp at z0 z1 z2 z3
  simp [bodyPost, results, Tryz.results296, go_sem, z0, z1, z2, z3]
  have hpA : Pres [b] [] W V5 := ⟨hp5.os.trans hp4.os, hp5.tape.trans hp4.tape, hp5.output.trans hp4.output, Nat.le_trans hp4.size hp5.size, fun k hk hn => ?_⟩
  ·refine ⟨?_, ?_, hpA⟩
   ·exact (hp5.obj ho4 (by show t ∉ []; simp) (by simpa using hbne))
   ·have hpre : W.ownsRow BaseB.b0 41 4 (.slice (some ⟨g0, 0, none⟩) T.length sc) T.length (fw T) := own_pre (m := 1) (by have h0 := h.own; rw [hlen, fw_app] at h0; exact h0) (fw_len T)
    exact ⟨own_same hpre fun k hk => by
     obtain ⟨cur, hcur⟩ := own_type hpre k hk
     refine (hpA.obj hcur (by show (41 : Nat) ∉ []; simp) ?_).trans hcur.symm
     simp only [List.mem_singleton]
     exact ty_ne hcur ho (fun e => ht e.symm), by omega, Nat.le_trans h.low hpA.size⟩
  ·rcases hp4.block k hk hn with e | ⟨t, c, c2, ht, _⟩
   ·refine .inl (Eq.trans ?_ e)
    rcases hp5.block k (Nat.lt_of_lt_of_le hk hp4.size) (by simp; omega) with e5 | ⟨t, c, c2, ht, _⟩
    ·exact e5
    ·cases ht
   ·cases ht
end Go.Mark
