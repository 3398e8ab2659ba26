/-
 number.Compare, and what it leaves of the world; slices.SortFunc at words.
-/
import Derived.Test.YtbephahokhnccaaGreatXE7toF4
import Derived.Test.YtbephahokhnccaaGreatXF18toG3
import Derived.Test.YtbephahokhnccaaGreatF17
import Derived.Laws.OwnMore
import Derived.Shelf.SlSortCmp.NoneTotal
import Derived.Test.YtbephahokhnccaaGreatF13
namespace Go.Mark
open Go.RowKit Go.Proofs Go.Sort Go.Shelf
/-- nothing but draws and new blocks -/
def Gr (w w' : World) : Prop := ∃ q os, w' = grow (w.drewN q) os
theorem Gr.refl (w : World) : Gr w w := ⟨0, #[], by simp [World.drewN]⟩
theorem Gr.alloc {w w' : World} (h : Gr w w') (o : Obj) : Gr w (w'.alloc o) := by
 obtain ⟨q, os, rfl⟩ := h
 exact ⟨q, os ++ #[o], by rw [alloc_eq_grow, grow_grow]⟩
theorem Gr.drewN {w w' : World} (h : Gr w w') (n : Nat) : Gr w (w'.drewN n) := by
 obtain ⟨q, os, rfl⟩ := h
 exact ⟨q + n, os, by simp [World.drewN, grow, Nat.add_assoc]⟩
theorem Gr.drew {w w' : World} (h : Gr w w') : Gr w w'.drew := h.drewN 1
set_option maxRecDepth 100000 in
set_option maxHeartbeats 1000000 in
theorem gcmp_3 (a0 a1 a2 a3 b0 b1 b2 b3 : Int) (h : (a3 != b3) = true) (w : World) :
  Calls TryQ.prog 66 #[.agg #[.int .u64 a0, .int .u64 a1, .int .u64 a2, .int .u64 a3], .agg #[.int .u64 b0, .int .u64 b1, .int .u64 b2, .int .u64 b3]] w fun e w' => e = .returned (.int .i64 (cmpI a3 b3)) ∧ Gr w w' := by
 go_enter TryQ.func66, Tryz.ntmps66
 go_wp2
 refine wp_loop_rounds 5 ?_
 rw [rounds_succ]
 go_wp2
 go_quiet (fail)
 go_wp2
 go_region_with (go_at_call 91; refine (cmp64 a3 b3 _).mono ?_; rintro e w' ⟨rfl, hw⟩; rw [hw])
 all_goals
  go_wp2
  go_ret
  exact ⟨rfl, by first | exact Gr.drewN (Gr.alloc (Gr.alloc (Gr.refl _) _) _) _ | exact Gr.alloc (Gr.alloc (Gr.refl _) _) _ | (repeat (first | exact Gr.refl _ | apply Gr.drewN | apply Gr.drew | apply Gr.alloc))⟩
set_option maxRecDepth 100000 in
set_option maxHeartbeats 1000000 in
theorem gcmp_2 (a0 a1 a2 b0 b1 b2 x3 : Int) (h : (a2 != b2) = true) (w : World) :
  Calls TryQ.prog 66 #[.agg #[.int .u64 a0, .int .u64 a1, .int .u64 a2, .int .u64 x3], .agg #[.int .u64 b0, .int .u64 b1, .int .u64 b2, .int .u64 x3]] w fun e w' => e = .returned (.int .i64 (cmpI a2 b2)) ∧ Gr w w' := by
 go_enter TryQ.func66, Tryz.ntmps66
 go_wp2
 refine wp_loop_rounds 5 ?_
 rw [rounds_succ]
 go_wp2
 go_quiet (fail)
 go_wp2
 rw [rounds_succ]
 go_wp2
 go_quiet (fail)
 go_wp2
 go_region_with (go_at_call 91; refine (cmp64 a2 b2 _).mono ?_; rintro e w' ⟨rfl, hw⟩; rw [hw])
 all_goals
  go_wp2
  go_ret
  exact ⟨rfl, by first | exact Gr.drewN (Gr.alloc (Gr.alloc (Gr.refl _) _) _) _ | exact Gr.alloc (Gr.alloc (Gr.refl _) _) _ | (repeat (first | exact Gr.refl _ | apply Gr.drewN | apply Gr.drew | apply Gr.alloc))⟩
set_option maxRecDepth 100000 in
set_option maxHeartbeats 1000000 in
theorem gcmp_1 (a0 a1 b0 b1 x2 x3 : Int) (h : (a1 != b1) = true) (w : World) :
  Calls TryQ.prog 66 #[.agg #[.int .u64 a0, .int .u64 a1, .int .u64 x2, .int .u64 x3], .agg #[.int .u64 b0, .int .u64 b1, .int .u64 x2, .int .u64 x3]] w fun e w' => e = .returned (.int .i64 (cmpI a1 b1)) ∧ Gr w w' := by
 go_enter TryQ.func66, Tryz.ntmps66
 go_wp2
 refine wp_loop_rounds 5 ?_
 rw [rounds_succ]
 go_wp2
 go_quiet (fail)
 go_wp2
 rw [rounds_succ]
 go_wp2
 go_quiet (fail)
 go_wp2
 rw [rounds_succ]
 go_wp2
 go_quiet (fail)
 go_wp2
 go_region_with (go_at_call 91; refine (cmp64 a1 b1 _).mono ?_; rintro e w' ⟨rfl, hw⟩; rw [hw])
 all_goals
  go_wp2
  go_ret
  exact ⟨rfl, by first | exact Gr.drewN (Gr.alloc (Gr.alloc (Gr.refl _) _) _) _ | exact Gr.alloc (Gr.alloc (Gr.refl _) _) _ | (repeat (first | exact Gr.refl _ | apply Gr.drewN | apply Gr.drew | apply Gr.alloc))⟩
set_option maxRecDepth 100000 in
set_option maxHeartbeats 1000000 in
theorem gcmp_0 (a0 b0 x1 x2 x3 : Int) (h : (a0 != b0) = true) (w : World) :
  Calls TryQ.prog 66 #[.agg #[.int .u64 a0, .int .u64 x1, .int .u64 x2, .int .u64 x3], .agg #[.int .u64 b0, .int .u64 x1, .int .u64 x2, .int .u64 x3]] w fun e w' => e = .returned (.int .i64 (cmpI a0 b0)) ∧ Gr w w' := by
 go_enter TryQ.func66, Tryz.ntmps66
 go_wp2
 refine wp_loop_rounds 5 ?_
 rw [rounds_succ]
 go_wp2
 go_quiet (fail)
 go_wp2
 rw [rounds_succ]
 go_wp2
 go_quiet (fail)
 go_wp2
 rw [rounds_succ]
 go_wp2
 go_quiet (fail)
 go_wp2
 rw [rounds_succ]
 go_wp2
 go_quiet (fail)
 go_wp2
 go_region_with (go_at_call 91; refine (cmp64 a0 b0 _).mono ?_; rintro e w' ⟨rfl, hw⟩; rw [hw])
 all_goals
  go_wp2
  go_ret
  exact ⟨rfl, by first | exact Gr.drewN (Gr.alloc (Gr.alloc (Gr.refl _) _) _) _ | exact Gr.alloc (Gr.alloc (Gr.refl _) _) _ | (repeat (first | exact Gr.refl _ | apply Gr.drewN | apply Gr.drew | apply Gr.alloc))⟩
set_option maxRecDepth 100000 in
set_option maxHeartbeats 1000000 in
theorem gcmp_eq (x0 x1 x2 x3 : Int) (w : World) :
  Calls TryQ.prog 66 #[.agg #[.int .u64 x0, .int .u64 x1, .int .u64 x2, .int .u64 x3], .agg #[.int .u64 x0, .int .u64 x1, .int .u64 x2, .int .u64 x3]] w fun e w' => e = .returned (.int .i64 0) ∧ Gr w w' := by
 go_enter TryQ.func66, Tryz.ntmps66
 go_wp2
 refine wp_loop_rounds 5 ?_
 rw [rounds_succ]
 go_wp2
 go_quiet (fail)
 go_wp2
 rw [rounds_succ]
 go_wp2
 go_quiet (fail)
 go_wp2
 rw [rounds_succ]
 go_wp2
 go_quiet (fail)
 go_wp2
 rw [rounds_succ]
 go_wp2
 go_quiet (fail)
 go_wp2
 rw [rounds_succ]
 go_wp2
 go_ret
 exact ⟨rfl, by first | exact Gr.drewN (Gr.alloc (Gr.alloc (Gr.refl _) _) _) _ | exact Gr.alloc (Gr.alloc (Gr.refl _) _) _ | (repeat (first | exact Gr.refl _ | apply Gr.drewN | apply Gr.drew | apply Gr.alloc))⟩
set_option maxRecDepth 100000 in
set_option maxHeartbeats 1000000 in
theorem gcompare (a b : Nat) (ha : a < M) (hb : b < M) (w : World) :
  Calls TryQ.prog 66 #[wd a, wd b] w fun e w' => e = .returned (.int .i64 (cmpI a b)) ∧ Gr w w' := by
 have sa := lim_sum a ha
 have sb := lim_sum b hb
 have l0 := lim_nn a 0; have l1 := lim_nn a 1; have l2 := lim_nn a 2; have l3 := lim_nn a 3
 have u0 := lim_lt a 0; have u1 := lim_lt a 1; have u2 := lim_lt a 2; have u3 := lim_lt a 3
 have k0 := lim_nn b 0; have k1 := lim_nn b 1; have k2 := lim_nn b 2; have k3 := lim_nn b 3
 have v0 := lim_lt b 0; have v1 := lim_lt b 1; have v2 := lim_lt b 2; have v3 := lim_lt b 3
 unfold wd
 generalize lim a 0 = a0 at *; generalize lim a 1 = a1 at *; generalize lim a 2 = a2 at *; generalize lim a 3 = a3 at *
 generalize lim b 0 = b0 at *; generalize lim b 1 = b1 at *; generalize lim b 2 = b2 at *; generalize lim b 3 = b3 at *
 by_cases h3 : a3 = b3
 ·subst h3
  by_cases h2 : a2 = b2
  ·subst h2
   by_cases h1 : a1 = b1
   ·subst h1
    by_cases h0 : a0 = b0
    ·subst h0
     have e : cmpI a b = 0 := by unfold cmpI; rw [if_neg (by omega), if_neg (by omega)]
     rw [e]
     exact gcmp_eq a0 a1 a2 a3 w
    ·have e : cmpI a b = cmpI a0 b0 := by unfold cmpI; split <;> split <;> (try split) <;> (try split) <;> first | rfl | omega
     rw [e]
     exact gcmp_0 a0 b0 a1 a2 a3 (by simpa using h0) w
   ·have e : cmpI a b = cmpI a1 b1 := by unfold cmpI; split <;> split <;> (try split) <;> (try split) <;> first | rfl | omega
    rw [e]
    exact gcmp_1 a0 a1 b0 b1 a2 a3 (by simpa using h1) w
  ·have e : cmpI a b = cmpI a2 b2 := by unfold cmpI; split <;> split <;> (try split) <;> (try split) <;> first | rfl | omega
   rw [e]
   exact gcmp_2 a0 a1 a2 b0 b1 b2 a3 (by simpa using h2) w
 ·have e : cmpI a b = cmpI a3 b3 := by unfold cmpI; split <;> split <;> (try split) <;> (try split) <;> first | rfl | omega
  rw [e]
  exact gcmp_3 a0 a1 a2 a3 b0 b1 b2 b3 (by simpa using h3) w
end Go.Mark
/-
 Lists in order, by keys that are numbers.
-/
namespace Go.Mark
section
variable {α : Type} (f : α → Int)
/-- an element put into its place -/
def insK (x : α) : List α → List α
 | [] => [x]
 | y :: l => if f x < f y then x :: y :: l else y :: insK x l
/-- the list in order -/
def srt (l : List α) : List α := l.foldr (insK f) []
/-- one behind the other, no two alike -/
abbrev Up (l : List α) : Prop := l.Pairwise fun a b => f a < f b
theorem insK_perm (x : α) : ∀ l : List α, (insK f x l).Perm (x :: l)
 | [] => .refl _
 | y :: l => by
  unfold insK
  split
  ·exact .refl _
  ·exact ((insK_perm x l).cons y).trans (.swap x y l)
theorem srt_perm : ∀ l : List α, (srt f l).Perm l
 | [] => .refl _
 | x :: l => (insK_perm f x (srt f l)).trans ((srt_perm l).cons x)
theorem insK_up (x : α) : ∀ l : List α, Up f l → (∀ y ∈ l, f x ≠ f y) → Up f (insK f x l)
 | [], _, _ => by simp [insK]
 | y :: l, h, hx => by
  unfold insK
  have h' := List.pairwise_cons.1 h
  split
  ·rename_i hl
   exact List.pairwise_cons.2 ⟨fun z hz => by
    rcases List.mem_cons.1 hz with rfl | hz
    ·exact hl
    ·exact Int.lt_trans hl (h'.1 z hz), h⟩
  ·rename_i hl
   refine List.pairwise_cons.2 ⟨fun z hz => ?_, insK_up x l h'.2 fun z hz => hx z (List.mem_cons_of_mem _ hz)⟩
   rcases List.mem_cons.1 ((insK_perm f x l).mem_iff.1 hz) with rfl | hz
   ·have := hx y (List.mem_cons_self ..)
    omega
   ·exact h'.1 z hz
theorem srt_up : ∀ l : List α, (l.map f).Nodup → Up f (srt f l)
 | [], _ => by simp [srt]
 | x :: l, h => by
  have h' := List.nodup_cons.1 h
  refine insK_up f x (srt f l) (srt_up l h'.2) fun y hy e => h'.1 ?_
  rw [e]
  exact List.mem_map_of_mem ((srt_perm f l).mem_iff.1 hy)
variable {f}
theorem up_nodup {l : List α} (h : Up f l) : (l.map f).Nodup := by
 unfold List.Nodup
 rw [List.pairwise_map]
 exact h.imp fun h e => by omega
theorem up_unique : ∀ {l m : List α}, l.Perm m → Up f l → Up f m → l = m
 | [], m, h, _, _ => (List.nil_perm.1 h).symm
 | x :: l, [], h, _, _ => by simp at h
 | x :: l, y :: m, h, hl, hm => by
  have hl' := List.pairwise_cons.1 hl
  have hm' := List.pairwise_cons.1 hm
  have e : x = y := by
   rcases List.mem_cons.1 (h.mem_iff.1 (List.mem_cons_self ..)) with e | e
   ·exact e
   ·rcases List.mem_cons.1 (h.mem_iff.2 (List.mem_cons_self ..)) with e' | e'
    ·exact e'.symm
    ·have := hm'.1 x e
     have := hl'.1 y e'
     omega
  subst e
  rw [up_unique (List.perm_cons x |>.1 h) hl'.2 hm'.2]
theorem srt_unique {l m : List α} (h : m.Perm l) (hm : Up f m) : m = srt f l :=
 up_unique (h.trans (srt_perm f l).symm) hm (srt_up f l ((h.map f).nodup_iff.1 (up_nodup hm)))
/-- an element on its way down from the end -/
abbrev down (l : List α) (x : α) (j : Nat) : List α := l.take j ++ x :: l.drop j
theorem down_perm (l : List α) (x : α) (j : Nat) : (down l x j).Perm (l ++ [x]) := by
 have h1 : (down l x j).Perm (x :: (l.take j ++ l.drop j)) := List.perm_middle
 rw [List.take_append_drop] at h1
 exact h1.trans (List.perm_append_comm (l₁ := [x]) (l₂ := l))
theorem down_up {l : List α} {x : α} {j : Nat} (h : Up f l) (hj : j ≤ l.length) (ha : ∀ y ∈ l.drop j, f x < f y) (hb : ∀ i : Nat, ∀ hi : i < l.length, i + 1 = j → f l[i] < f x) : Up f (down l x j) := by
 have hl : Up f (l.take j ++ l.drop j) := by rw [List.take_append_drop]; exact h
 obtain ⟨h1, h2, h3⟩ := List.pairwise_append.1 hl
 refine List.pairwise_append.2 ⟨h1, List.pairwise_cons.2 ⟨ha, h2⟩, fun a haa b hbb => ?_⟩
 rcases List.mem_cons.1 hbb with rfl | hbb
 ·rcases j with _ | j
  ·simp at haa
  ·have hx := hb j (by omega) rfl
   obtain ⟨i, hi, rfl⟩ := List.mem_iff_getElem.1 haa
   have hi' : i < j + 1 := by simp at hi; omega
   rw [List.getElem_take]
   by_cases e : i = j
   ·subst e; exact hx
   ·exact Int.lt_trans ((List.pairwise_iff_getElem.1 h) i j (by omega) (by omega) (by omega)) hx
 ·exact h3 a haa b hbb
theorem down_len (l : List α) (x : α) (j : Nat) (hj : j ≤ l.length) : (down l x j).length = l.length + 1 := by simp; omega
theorem down_at (l : List α) (x : α) (j : Nat) (hj : j ≤ l.length) : (down l x j)[j]? = some x := by
 rw [List.getElem?_append_right (by simp; omega)]
 simp [Nat.min_eq_left hj]
theorem down_pre (l : List α) (x : α) (j : Nat) (hj : j < l.length) : (down l x (j + 1))[j]? = some l[j] := by
 rw [List.getElem?_append_left (by simp; omega), List.getElem?_take, if_pos (by omega), List.getElem?_eq_getElem hj]
theorem down_swap (l : List α) (x : α) (j : Nat) (hj : j < l.length) : ((down l x (j + 1)).set (j + 1) l[j]).set j x = down l x j := by
 have e1 : l.take (j + 1) = l.take j ++ [l[j]] := (List.take_append_getElem hj).symm
 have e2 : l.drop j = l[j] :: l.drop (j + 1) := List.drop_eq_getElem_cons hj
 have el : (l.take j).length = j := by simp; omega
 unfold down
 rw [e1, e2, List.append_assoc]
 rw [List.set_append_right _ _ (by omega), el, List.set_append_right _ _ (by omega), el]
 simp
theorem down_drop (l : List α) (x : α) (j : Nat) (hj : j < l.length) (h : f x < f l[j]) (ha : ∀ y ∈ l.drop (j + 1), f x < f y) : ∀ y ∈ l.drop j, f x < f y := fun y hy => by
 rw [List.drop_eq_getElem_cons hj] at hy
 rcases List.mem_cons.1 hy with rfl | hy
 ·exact h
 ·exact ha y hy
end
end Go.Mark
/-
 A row of one's own, written into.
-/
namespace Go.Mark
open Go.RowKit Go.Proofs
/-- cells written into a list of them -/
def putL (xs : List Value) : Nat → List Value → List Value
 | _, [] => xs
 | o, u :: l => putL (xs.set o u) (o + 1) l
theorem putL_right : ∀ (l a xs : List Value) (o : Nat), putL (a ++ xs) (a.length + o) l = a ++ putL xs o l
 | [], _, _, _ => rfl
 | u :: l, a, xs, o => by
  rw [putL, putL, List.set_append_right _ _ (by omega), Nat.add_sub_cancel_left, Nat.add_assoc, putL_right l]
theorem putL_left : ∀ (l a xs : List Value) (b : List Value), l.length = a.length → putL (b ++ a ++ xs) b.length l = b ++ l ++ xs
 | [], a, xs, b, h => by
  cases a with
  | nil => simp [putL]
  | cons x a => simp at h
 | u :: l, a, xs, b, h => by
  cases a with
  | nil => simp at h
  | cons x a =>
   have := putL_left l a xs (b ++ [u]) (by simpa using h)
   rw [putL]
   simp only [List.length_append, List.length_cons, List.length_nil, Nat.zero_add, List.append_assoc, List.cons_append, List.nil_append, List.set_append_right _ _ (Nat.le_refl _), Nat.sub_self, List.set_cons_zero] at this ⊢
   exact this
theorem own_put {base size n g cap : Nat} {e : TypeId} : ∀ (l : List Value) (W : World) (xs : List Value) (o : Nat), W.ownsRow base e size (.slice (some ⟨g, 0, none⟩) n cap) n xs → (W.setCells g o l).ownsRow base e size (.slice (some ⟨g, 0, none⟩) n cap) n (putL xs o l) ∧ W.grownBy (W.setCells g o l) (some g)
 | [], W, xs, o, h => ⟨h, gb_refl W _⟩
 | u :: l, W, xs, o, h => by
  have h1 := h.stored o u
  have h2 := own_put l _ _ (o + 1) h1.1
  exact ⟨h2.1, h1.2.trans h2.2⟩
theorem flatA_len : ∀ l : List (AccD × SV), (flatA l).length = l.length * 8
 | [] => rfl
 | p :: l => by rw [flatA, List.length_append, flatA_len l, List.length_cons]; show 8 + _ = _; omega
theorem flatS_put : ∀ (l : List (Nat × Nat)) (i : Nat) (p : Nat × Nat), i < l.length → putL (flatS l) (i * 8) (slotCells p) = flatS (l.set i p)
 | [], _, _, h => by simp at h
 | q :: l, 0, p, _ => by
  have := putL_left (slotCells p) (slotCells q) (flatS l) [] rfl
  simpa [flatS] using this
 | q :: l, i + 1, p, h => by
  have h1 := putL_right (slotCells p) (slotCells q) (flatS l) (i * 8)
  have e : (slotCells q).length + i * 8 = (i + 1) * 8 := by show 8 + _ = _; omega
  rw [e, flatS_put l i p (by simpa using h)] at h1
  exact h1
theorem flatA_put : ∀ (l : List (AccD × SV)) (i : Nat) (p : AccD × SV), i < l.length → putL (flatA l) (i * 8) (accCells p.1 p.2) = flatA (l.set i p)
 | [], _, _, h => by simp at h
 | q :: l, 0, p, _ => by
  have := putL_left (accCells p.1 p.2) (accCells q.1 q.2) (flatA l) [] rfl
  simpa [flatA] using this
 | q :: l, i + 1, p, h => by
  have h1 := putL_right (accCells p.1 p.2) (accCells q.1 q.2) (flatA l) (i * 8)
  have e : (accCells q.1 q.2).length + i * 8 = (i + 1) * 8 := by show 8 + _ = _; omega
  rw [e, flatA_put l i p (by simpa using h)] at h1
  exact h1
theorem flatS_at : ∀ (l : List (Nat × Nat)) (i : Nat) (p : Nat × Nat), l[i]? = some p → ∀ j : Nat, j < 8 → (flatS l)[i * 8 + j]? = (slotCells p)[j]?
 | [], _, _, h, _, _ => by simp at h
 | q :: l, 0, p, h, j, hj => by
  cases h
  rw [flatS, List.getElem?_append_left (by show _ < 8; omega)]
  congr 1; omega
 | q :: l, i + 1, p, h, j, hj => by
  rw [flatS, List.getElem?_append_right (by show 8 ≤ _; omega), ← flatS_at l i p (by simpa using h) j hj]
  congr 1; show _ - 8 = _; omega
theorem flatA_at : ∀ (l : List (AccD × SV)) (i : Nat) (p : AccD × SV), l[i]? = some p → ∀ j : Nat, j < 8 → (flatA l)[i * 8 + j]? = (accCells p.1 p.2)[j]?
 | [], _, _, h, _, _ => by simp at h
 | q :: l, 0, p, h, j, hj => by
  cases h
  rw [flatA, List.getElem?_append_left (by show _ < 8; omega)]
  congr 1; omega
 | q :: l, i + 1, p, h, j, hj => by
  rw [flatA, List.getElem?_append_right (by show 8 ≤ _; omega), ← flatA_at l i p (by simpa using h) j hj]
  congr 1; show _ - 8 = _; omega
/-- an element of a row of one's own -/
theorem own_slot {W : World} {base g n cap : Nat} {l : List (Nat × Nat)} (h : W.ownsRow base 57 8 (.slice (some ⟨g, 0, none⟩) n cap) n (flatS l)) {i : Nat} {p : Nat × Nat} (hp : l[i]? = some p) : CellsAt W g (i * 8) (slotCells p) := fun j v hj => by
 have hi := (List.getElem?_eq_some_iff.1 hp).1
 have hj8 : j < 8 := (List.getElem?_eq_some_iff.1 hj).1
 have hn := h.1
 rw [flatS_len] at hn
 rw [h.cellAt (i * 8 + j) (by omega), flatS_at l i p hp j hj8]
 exact hj
theorem own_acc {W : World} {base g n cap : Nat} {l : List (AccD × SV)} (h : W.ownsRow base 31 8 (.slice (some ⟨g, 0, none⟩) n cap) n (flatA l)) {i : Nat} {p : AccD × SV} (hp : l[i]? = some p) : CellsAt W g (i * 8) (accCells p.1 p.2) := fun j v hj => by
 have hi := (List.getElem?_eq_some_iff.1 hp).1
 have hj8 : j < 8 := (List.getElem?_eq_some_iff.1 hj).1
 have hn := h.1
 rw [flatA_len] at hn
 rw [h.cellAt (i * 8 + j) (by omega), flatA_at l i p hp j hj8]
 exact hj
theorem own_there {W : World} {base g n cap size : Nat} {e : TypeId} {xs : List Value} (h : W.ownsRow base e size (.slice (some ⟨g, 0, none⟩) n cap) n xs) {o m : Nat} (ho : o + m ≤ n * size) : W.there g o m := fun j hj => by
 refine ⟨?_, h.frozenAt _⟩
 rw [h.cellAt (o + j) (by omega), List.getElem?_eq_getElem (by rw [h.1]; omega)]
 rfl
/-- an account with its slots in order -/
def sK (d : AccD) : AccD := { d with slots := srt (fun q => (q.1 : Int)) d.slots }
/-- the accounts in order -/
def told (ds : List AccD) : List AccD := srt (·.id) (ds.map sK)
end Go.Mark
/-
 slices.SortedFunc(maps.Keys(m), number.Compare) at a map of words (64).
-/
namespace Go.Mark
open Go.RowKit Go.Proofs Go.Maps Go.Sort Go.Shelf
/-- a number that is a word -/
abbrev Wd : Type := { k : Nat // k < M }
instance : Inhabited Wd := ⟨⟨0, by decide⟩⟩
def encW (x : Wd) : List Value := wc x.1
def cfW (x y : Wd) : Int := cmpI (x.1 : Int) (y.1 : Int)
theorem ltW (x y : Wd) : ltOf cfW x y = decide (x.1 < y.1) := by
 unfold ltOf cfW cmpI
 by_cases h1 : (x.1 : Int) < (y.1 : Int)
 ·have h1' : x.1 < y.1 := by omega
  rw [if_pos h1]; simp [h1']
 ·have h1' : ¬ x.1 < y.1 := by omega
  rw [if_neg h1]
  by_cases h2 : (y.1 : Int) < (x.1 : Int) <;> simp [h1', h2]
theorem swoW : SWO (ltOf cfW) where
 irrefl x := by rw [ltW]; simp
 trans x y z h1 h2 := by rw [ltW] at *; simp at *; omega
 ntrans x y z h1 h2 := by rw [ltW] at *; simp at *; omega
theorem cmpLaysW (blk off size : Nat) (w : World) : CmpLays TryQ.prog 66 #[] encW 4 cfW blk off size w := fun _ _ _ _ x y =>
 (gcompare x.1 y.1 x.2 y.2 _).mono fun _ _ ⟨h1, q, os', h2⟩ => ⟨h1, q, os', h2⟩
theorem flatW_at : ∀ (l : List Nat) (i k : Nat), l[i]? = some k → ∀ c : Nat, c < 4 → (flatW l)[i * 4 + c]? = (wc k)[c]?
 | [], _, _, h, _, _ => by simp at h
 | q :: l, 0, p, h, j, hj => by
  cases h
  rw [flatW, List.getElem?_append_left (by show _ < 4; omega)]
  congr 1; omega
 | q :: l, i + 1, p, h, j, hj => by
  rw [flatW, List.getElem?_append_right (by show 4 ≤ _; omega), ← flatW_at l i p (by simpa using h) j hj]
  congr 1; show _ - 4 = _; omega
theorem subs : ∀ ss : List Nat, (∀ k ∈ ss, k < M) → ∃ ds : List Wd, ds.map (·.1) = ss
 | [], _ => ⟨[], rfl⟩
 | k :: ss, h => by
  obtain ⟨ds, hd⟩ := subs ss fun j hj => h j (List.mem_cons_of_mem _ hj)
  exact ⟨⟨k, h k (List.mem_cons_self ..)⟩ :: ds, by rw [List.map_cons, hd]⟩
theorem holdsW {W : World} {base g cap : Nat} {ss : List Nat} {ds : List Wd} (hd : ds.map (·.1) = ss) (h : W.ownsRow base 28 4 (.slice (some ⟨g, 0, none⟩) ss.length cap) ss.length (flatW ss)) : HoldsK encW 4 W g 0 ds.toArray := by
 have hl : ds.length = ss.length := by rw [← hd]; simp
 intro j hj
 rw [size_flatK] at hj
 have hj' : j < ss.length * 4 := by rw [← hl]; simpa using hj
 rw [Nat.zero_add]
 refine ⟨?_, h.frozenAt j⟩
 rw [h.cellAt j hj', get_flatK _ _ _ _ hj]
 have hi : j / 4 < ds.length := by omega
 have hk : ss[j / 4]? = some (ds[j / 4]).1 := by rw [← hd]; simp [hi]
 have := flatW_at ss (j / 4) _ hk (j % 4) (Nat.mod_lt _ (by decide))
 have e : j / 4 * 4 + j % 4 = j := by omega
 rw [e] at this
 rw [this]
 have e2 : (ds.toArray[j / 4]! : Wd) = ds[j / 4] := by simp [hi]
 rw [e2]
 show (wc _)[j % 4]? = some ((wc _)[j % 4]!)
 have h4 : j % 4 < 4 := Nat.mod_lt _ (by decide)
 generalize j % 4 = c at h4
 rcases c with _ | _ | _ | _ | c <;> first | rfl | omega
/-- the keys of a map of words, in order -/
structure Sorted64 (w w' : World) (l : List (Nat × Value)) (a : Option Addr) (ks : List Nat) : Prop where
 perm : ks.Perm (l.map (·.1))
 up : Up (fun k : Nat => (k : Int)) ks
 cells : ks = [] ∨ ∃ g, a = some ⟨g, 0, none⟩ ∧ w.heap.size ≤ g ∧ g < w'.heap.size ∧ ∀ i k, ks[i]? = some k → CellsAt w' g (i * 4) (wc k)
 below : Below w.heap.size w w'
set_option maxRecDepth 100000 in
set_option maxHeartbeats 4000000 in
theorem sorted64 (Bm b : Nat) (l : List (Nat × Value)) (hl : ∀ p ∈ l, p.1 < M) (hnum : l.length < 1000000000) (hnd : (l.map (·.1)).Nodup) (w : World) (hBm : Bm < w.heap.size) (hm : w.cell? ⟨Bm, 0, none⟩ = some (.map (some b))) (hM : MapB wd w b l) :
  Calls TryQ.prog 64 #[.func (.func 90) #[] #[.pointer (some ⟨Bm, 0, none⟩)], .func (.func 66) #[] #[]] w fun e w' => ∃ (a : Option Addr) (cap : Nat) (ks : List Nat), e = .returned (.slice a ks.length cap) ∧ Sorted64 w w' l a ks := by
 have hcol := (callsIn_wide (n := 3)).1 (collect88 3 (by omega) 90 #[.pointer (some ⟨Bm, 0, none⟩)] (enters_of TryQ.func90 (by kernel_rfl) rfl) _ l.length hnum w (keys90_gives 1 (by omega) Bm b l hl w hBm hm hM))
 go_enter TryQ.func64, Tryz.ntmps64
 go_wp2_with fail
 refine hcol.mono ?_
 rintro e w1 ⟨v, ss, rfl, hperm, hown, hb1⟩
 have hssM : ∀ k ∈ ss, k < M := fun k hk => by
  obtain ⟨p, hp, rfl⟩ := List.mem_map.1 (hperm.mem_iff.1 hk)
  exact hl p hp
 have hslen : Shut (ss.length = l.length) := by have := hperm.length_eq; simpa [Shut] using this
 have hslt : ss.length < 1000000000 := by rw [hslen.out]; exact hnum
 rcases hown.2 with ⟨rfl, h0⟩ | ⟨g, cap, cur, rfl, hbg, hgb, hnc, hcm, _, _⟩
 ·have hss : ss = [] := List.eq_nil_of_length_eq_zero h0
  subst hss
  have hno : Calls TryQ.prog 89 #[.slice none 0 0, .func (.func 66) #[] #[]] w1 fun e w' => e = .returned (.tuple #[]) ∧ w' = w1 := AnyF.slices_SortFunc_none TryQ.sortW none 0 _ w1
  go_wp2_with fail
  refine hno.mono ?_
  rintro e w2 ⟨rfl, rfl⟩
  go_wp2_with fail
  simp [bodyPost, results, Tryz.results64, go_sem]
  exact ⟨none, 0, [], by simp, hperm, List.Pairwise.nil, .inl rfl, hb1⟩
 ·obtain ⟨ds, hds⟩ := subs ss hssM
  have hdl : ds.length = ss.length := by rw [← hds]; simp
  have hH := holdsW hds hown
  have hgl : g < w1.heap.size := (Array.getElem?_eq_some_iff.1 hgb).1
  have hso := AnyQ.slices_SortFunc TryQ.sortW 4 (fun w => (q_run_isAgg 28 w).trans (Tryz.isAgg28 w)) (fun w => (q_run_sizeOf 28 w).trans (Tryz.sizeOf28 w)) encW (fun _ => rfl) (fun x v hv => by simp only [encW, wc, List.mem_cons, List.not_mem_nil, or_false] at hv; rcases hv with rfl | rfl | rfl | rfl <;> rfl) cfW swoW 66 #[] g 0 cap ds.toArray w1 (enters_of TryQ.func66 (by kernel_rfl) rfl) (cmpLaysW _ _ _ _) hH hgl (by simp; omega)
  have e1 : ds.toArray.size = ss.length := by simpa using hdl
  rw [e1] at hso
  change Calls TryQ.prog 89 _ _ _ at hso
  go_wp2_with fail
  refine hso.mono ?_
  rintro e w2 ⟨rfl, d', n, os, hp, hs, hw2⟩
  have hperm2 : d'.toList.Perm ds := by
   have h1 := hp.2.2
   have h2 : d'.size = ss.length := by rw [hp.1]; exact e1
   rw [← h2] at h1
   have h3 : ds.toArray.extract 0 d'.size = ds.toArray := by rw [h2, ← e1]; simp
   rw [h3] at h1
   simpa using h1
  have hd's : d'.size = ss.length := by rw [hp.1]; exact e1
  have hks : (d'.toList.map (·.1)).Perm ss := by rw [← hds]; exact hperm2.map _
  have hup : Up (fun k : Nat => (k : Int)) (d'.toList.map (·.1)) := by
   have hnd' : (d'.toList.map (·.1)).Nodup := (hks.trans hperm).nodup_iff.2 hnd
   refine List.pairwise_iff_getElem.2 fun i j hi hj hij => ?_
   have hj' : j < d'.size := by simpa using hj
   have hi' : i < d'.size := by omega
   have h1 := hs i j (Nat.zero_le _) hij (by omega)
   rw [ltW] at h1
   have h2 := List.pairwise_iff_getElem.1 hnd' i j hi hj hij
   simp only [List.getElem_map, Array.getElem_toList] at h2 ⊢
   have h3 : d'[j]! = d'[j] := getElem!_pos d' j hj'
   have h4 : d'[i]! = d'[i] := getElem!_pos d' i hi'
   rw [h3, h4] at h1
   have := of_decide_eq_false h1
   omega
  have hkl : (d'.toList.map (·.1)).length = ss.length := by simp [hd's]
  have hH2 := holdsK_sortWorldK_c encW 4 w1 g 0 ds.toArray d' n os hH hgl (by rw [hd's, e1])
  have hb2 : Below w.heap.size w w2 := by
   rw [hw2]
   refine hb1.trans ⟨rfl, rfl, rfl, size_sortWorldK_c encW 4 w1 g 0 n d' os, fun k hk => ?_⟩
   have hk1 : k < w1.heap.size := Nat.lt_of_lt_of_le hk hb1.size
   have hkg : g ≠ k := by omega
   show ((putRowK encW 4 (Sort.ahead w1 n) g 0 d').heap ++ os)[k]? = _
   have hsz : k < (putRowK encW 4 (Sort.ahead w1 n) g 0 d').heap.size := by simpa [putRowK, putRow, mapBlock, Sort.ahead] using hk1
   rw [Array.getElem?_append_left hsz]
   show (w1.heap.modify g _)[k]? = _
   rw [Array.getElem?_modify, if_neg hkg]
  rw [← hw2] at hH2
  have hg2 : g < w2.heap.size := by have := size_sortWorldK_c encW 4 w1 g 0 n d' os; rw [← hw2] at this; omega
  clear hw2 hH
  go_wp2_with fail
  simp [bodyPost, results, Tryz.results64, go_sem]
  refine ⟨some ⟨g, 0, none⟩, cap, d'.toList.map (·.1), ?_, hks.trans hperm, hup, .inr ⟨g, rfl, hbg, hg2, fun i k hk c u hu => ?_⟩, hb2⟩
  ·simp [hd's]
  ·have hi : i < d'.size := by have := (List.getElem?_eq_some_iff.1 hk).1; simpa using this
   have hc : c < 4 := (List.getElem?_eq_some_iff.1 hu).1
   have h1 := (hH2.cell hi hc).1
   rw [Nat.zero_add] at h1
   rw [h1]
   have h3 : d'[i]! = d'[i] := getElem!_pos d' i hi
   have h4 : d'[i].1 = k := by
    have := hk
    simp [hi] at this
    exact this
   rw [h3]
   show some ((wc d'[i].1)[c]!) = some u
   rw [h4]
   have h5 := (List.getElem?_eq_some_iff.1 hu).2
   rw [← h5, getElem!_pos (wc k) c hc]
   rfl
end Go.Mark
/-! The law's small functions: same, why; the document's less. -/
namespace Go.Mark
open Go.RowKit Go.Proofs
structure T2 (w W : World) (a b : Nat) : Prop where
 below : Below w.heap.size w W
 x : CellsAt W w.heap.size 0 [.int .u64 (lim a 0), .int .u64 (lim a 1), .int .u64 (lim a 2), .int .u64 (lim a 3)]
 y : CellsAt W (w.heap.size + 1) 0 [.int .u64 (lim b 0), .int .u64 (lim b 1), .int .u64 (lim b 2), .int .u64 (lim b 3)]
theorem T2.keep {w W W' : World} {a b : Nat} (h : T2 w W a b) (hb : Below W.heap.size W W') : T2 w W' a b :=
 ⟨h.below.trans (hb.mono h.below.size), h.x.below hb, h.y.below hb⟩
theorem t2_start (w : World) (a b : Nat) : T2 w ((w.alloc (.cells #[.int .u64 (lim a 0), .int .u64 (lim a 1), .int .u64 (lim a 2), .int .u64 (lim a 3)] 28)).alloc (.cells #[.int .u64 (lim b 0), .int .u64 (lim b 1), .int .u64 (lim b 2), .int .u64 (lim b 3)] 28)) a b := by
 have h1 := cells_new w [.int .u64 (lim a 0), .int .u64 (lim a 1), .int .u64 (lim a 2), .int .u64 (lim a 3)] 28
 have h2 := cells_new (w.alloc (.cells #[.int .u64 (lim a 0), .int .u64 (lim a 1), .int .u64 (lim a 2), .int .u64 (lim a 3)] 28)) [.int .u64 (lim b 0), .int .u64 (lim b 1), .int .u64 (lim b 2), .int .u64 (lim b 3)] 28
 have hb : Below (w.alloc (.cells #[.int .u64 (lim a 0), .int .u64 (lim a 1), .int .u64 (lim a 2), .int .u64 (lim a 3)] 28)).heap.size (w.alloc (.cells #[.int .u64 (lim a 0), .int .u64 (lim a 1), .int .u64 (lim a 2), .int .u64 (lim a 3)] 28)) ((w.alloc (.cells #[.int .u64 (lim a 0), .int .u64 (lim a 1), .int .u64 (lim a 2), .int .u64 (lim a 3)] 28)).alloc (.cells #[.int .u64 (lim b 0), .int .u64 (lim b 1), .int .u64 (lim b 2), .int .u64 (lim b 3)] 28)) := (Below.refl _ _).alloc (Nat.le_refl _) _
 refine ⟨((Below.refl _ _).alloc (Nat.le_refl _) _).alloc (by simp) _, h1.below hb, ?_⟩
 simpa using h2
set_option maxRecDepth 100000 in
set_option maxHeartbeats 2000000 in
theorem rless (a b : Nat) (ha : a < M) (hb : b < M) (w : World) :
  Calls TryQ.prog 20 #[wd a, wd b] w fun e w' => e = .returned (.bool (decide (a < b))) ∧ Below w.heap.size w w' := by
 have hM : M < MM := by decide
 have hS := t2_start w a b
 have hspa := spread a ha
 rw [← lv_lg, lv_dl] at hspa
 have hspb := spread b hb
 rw [← lv_lg, lv_dl] at hspb
 go_enter TryQ.func20, Tryz.ntmps20
 unfold wd
 go_upto_region 1 with fail
 generalize (w.alloc (.cells #[.int .u64 (lim a 0), .int .u64 (lim a 1), .int .u64 (lim a 2), .int .u64 (lim a 3)] 28)).alloc (.cells #[.int .u64 (lim b 0), .int .u64 (lim b 1), .int .u64 (lim b 2), .int .u64 (lim b 3)] 28) = W0 at hS ⊢
 refine wp_region_held_drew (S := fun W => T2 w W a b) (by kernel_rfl) (hS.keep (Below.refl _ _).drew) (fun hH => ?_)
 clear hS
 refine take_d (i := 0) (d := some 5) (v := wd a) rfl rfl (by kernel_rfl) (by kernel_rfl) (by kernel_rfl) (fun _ _ _ h => h) (Or.inl ⟨by rfl, fun W hW => ?_⟩) hH ?_
 ·have k0 := hW.x 0 _ rfl; have k1 := hW.x 1 _ rfl; have k2 := hW.x 2 _ rfl; have k3 := hW.x 3 _ rfl
  simp only [Nat.zero_add] at k0 k1 k2 k3
  clear hW hH
  unfold wd
  go_simp
 simp only [Act.put, List.setIfInBounds_toArray, List.set_cons_zero, List.set_cons_succ]
 refine take_d (i := 2) (d := some 7) (v := wd b) rfl rfl (by kernel_rfl) (by kernel_rfl) (by kernel_rfl) (fun _ _ _ h => h) (Or.inl ⟨by rfl, fun W hW => ?_⟩) hH ?_
 ·have k0 := hW.y 0 _ rfl; have k1 := hW.y 1 _ rfl; have k2 := hW.y 2 _ rfl; have k3 := hW.y 3 _ rfl
  simp only [Nat.zero_add] at k0 k1 k2 k3
  clear hW hH
  unfold wd
  go_simp
 simp only [Act.put, List.setIfInBounds_toArray, List.set_cons_zero, List.set_cons_succ]
 refine wpAnyH_ready (rs := [1]) (by kernel_rfl) (by simp) ?_
 refine AllReadyH.cons rfl (fun K hK => ?_) AllReadyH.nil
 go_simp
 refine (hspa _).mono ?_
 rintro e wA ⟨rfl, hbn⟩
 go_wp2_with fail
 refine hK.out _ _ (hH.keep hbn) (fun hH => ?_)
 clear hbn hK K
 refine wpAnyH_ready (rs := [3]) (by kernel_rfl) (by simp) ?_
 refine AllReadyH.cons rfl (fun K hK => ?_) AllReadyH.nil
 go_simp
 refine (hspb _).mono ?_
 rintro e wB ⟨rfl, hbn⟩
 go_wp2_with fail
 refine hK.out _ _ (hH.keep hbn) (fun hH => ?_)
 clear hbn hK K
 refine wpAnyH_ready (rs := [4]) (by kernel_rfl) (by simp) ?_
 refine AllReadyH.cons rfl (fun K hK => ?_) AllReadyH.nil
 go_simp
 refine (below a b (by omega) (by omega) _).mono ?_
 rintro e wC ⟨rfl, hbn⟩
 go_wp2_with fail
 refine hK.out _ _ (hH.keep hbn) (fun hH => ?_)
 clear hbn hK K
 refine take_d (i := 5) (d := some 4) (v := .bool (decide (a < b))) rfl rfl (by kernel_rfl) (by kernel_rfl) (by kernel_rfl) (fun _ _ _ h => h) (Or.inl ⟨by rfl, fun W hW => ?_⟩) hH ?_
 ·clear hW hH
  go_simp
 simp only [Act.put, List.setIfInBounds_toArray, List.set_cons_zero, List.set_cons_succ]
 refine wpAnyH_done (by kernel_rfl) ?_ _
 go_wp2
 go_ret
 exact ⟨rfl, hH.below⟩
set_option maxRecDepth 100000 in
set_option maxHeartbeats 2000000 in
theorem why0 (w : World) : Calls TryQ.prog 12 #[.nilIface] w fun e w' => e = .returned (.int .i64 0) ∧ Below w.heap.size w w' := by
 go_enter TryQ.func12, Tryz.ntmps12
 go_wp2
 simp [bodyPost, results, Tryz.results12, go_sem]
 exact Below.refl _ _
set_option maxRecDepth 100000 in
set_option maxHeartbeats 2000000 in
theorem as69 (v : Value) (w : World) : (Instr.typeAssert (.iface 69 v) 45 69 true).run TryQ.prog w = .ok (.tuple #[v, .bool true]) w := by kernel_rfl
set_option maxRecDepth 100000 in
set_option maxHeartbeats 2000000 in
theorem why1 (n : Int) (w : World) : Calls TryQ.prog 12 #[.iface 69 (.agg #[.int .i64 n])] w fun e w' => e = .returned (.int .i64 n) ∧ Below w.heap.size w w' := by
 have ha := fun v W => as69 v W
 go_enter TryQ.func12, Tryz.ntmps12
 go_wp2
 simp [bodyPost, results, Tryz.results12, go_sem]
 exact (Below.refl _ _).alloc (Nat.le_refl _) _
theorem bytes_ne (a b : ByteArray) (h : ¬ a = b) : ¬ a.toList = b.toList := fun e => h (by
 rw [ByteArray.toList_eq, ByteArray.toList_eq] at e
 obtain ⟨⟨la⟩⟩ := a
 obtain ⟨⟨lb⟩⟩ := b
 cases e
 rfl)
set_option maxRecDepth 100000 in
set_option maxHeartbeats 4000000 in
theorem same (d d2 : AccD) (s s2 : SV) (w : World) (h1 : d.bal < M) (h2 : d2.bal < M) :
  Calls TryQ.prog 11 #[.agg (accCells d s).toArray, .agg (accCells d2 s2).toArray] w fun e w' => e = .returned (.bool (decide (d.id = d2.id ∧ d.bal = d2.bal ∧ d.nonce = d2.nonce ∧ d.code = d2.code))) ∧ Below w.heap.size w w' := by
 have hq : ∀ m n, m < M → n < M → ∀ W, (Op.equalIn 10000 28 (wd m) (wd n)).run TryQ.prog W = .ok (decide (m = n)) W := run_eqw
 unfold wd at hq
 unfold accCells
 have hB : ∀ o1 o2, Below w.heap.size w ((w.alloc o1).alloc o2) := fun o1 o2 => ((Below.refl _ _).alloc (Nat.le_refl _) _).alloc (by simp) _
 by_cases g1 : d.id = d2.id
 rotate_left
 ·go_enter TryQ.func11, Tryz.ntmps11
  go_wp2
  simp [bodyPost, results, Tryz.results11, go_sem, g1]
  exact hB _ _
 by_cases g2 : d.bal = d2.bal
 rotate_left
 ·go_enter TryQ.func11, Tryz.ntmps11
  go_wp2
  simp [bodyPost, results, Tryz.results11, go_sem, g2]
  exact hB _ _
 by_cases g3 : d.nonce = d2.nonce
 rotate_left
 ·go_enter TryQ.func11, Tryz.ntmps11
  go_wp2
  simp [bodyPost, results, Tryz.results11, go_sem, g3]
  exact hB _ _
 by_cases g4 : d.code = d2.code
 rotate_left
 ·go_enter TryQ.func11, Tryz.ntmps11
  go_wp2
  simp [bodyPost, results, Tryz.results11, go_sem, g4]
  exact ⟨bytes_ne _ _ g4, hB _ _⟩
 go_enter TryQ.func11, Tryz.ntmps11
 go_wp2
 simp [bodyPost, results, Tryz.results11, go_sem, g1, g2, g3, g4]
 exact hB _ _
end Go.Mark
