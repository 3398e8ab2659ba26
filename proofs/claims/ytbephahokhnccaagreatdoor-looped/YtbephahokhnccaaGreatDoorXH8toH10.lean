import Derived.Test.YtbephahokhnccaaGreatDoorXK59toH7
set_option linter.unusedSectionVars false
set_option maxRecDepth 100000
set_option maxHeartbeats 4000000
namespace Go.Mark
open Go.RowKit Go.Proofs Go.Lift
variable [BaseB]
attribute [local go_sem] wd
theorem wpOps_pre {P : Program} {ops : Array Oper} {Q : Exit -> Act -> World -> Prop} : ∀ (l : List Oper) (k : Nat), (∀ j, j < l.length -> l[j]? = ops[k + j]?) -> wpOps P ops Q (List.range' k l.length) = wpList P ops Q l
 | [], k, _ => by funext a w; simp [wpOps, wpList]
 | o :: l, k, h => by
  have h0 : ops[k]? = some o := by simpa using (h 0 (by simp)).symm
  have ih' := wpOps_pre (P := P) (ops := ops) (Q := Q) l (k + 1) (fun j hj => by have := h (j + 1) (by simpa using hj); simpa [Nat.add_assoc, Nat.add_comm 1 j] using this)
  funext a w
  simp only [List.length_cons, List.range'_succ, wpOps, h0, wpList, ih']
theorem wpOps_first {P : Program} {ops : Array Oper} {Q : Exit -> Act -> World -> Prop} {a : Act} {w : World} (l : List Oper) (n : Nat) (hn : l.length = n) (hl : ∀ j, j < l.length -> l[j]? = ops[j]?) (h : wpList P ops Q l a w) : wpOps P ops Q (List.range' 0 n) a w := by
 rw [<- hn, wpOps_pre l 0 (fun j hj => by rw [Nat.zero_add]; exact hl j hj)]
 exact h
def row2 (d1 d2 : AccD) : Array Value := (accCells d1 ⟨none, 0, 0⟩ ++ accCells d2 ⟨none, 0, 0⟩).toArray
theorem inr_row2 {v : World} {b : Nat} {d1 d2 : AccD} (h : v.heap[b]? = some (.cells (row2 d1 d2) 52 (0, 0))) (h1 : d1.slots = []) (h2 : d2.slots = []) (hb1 : d1.bal < M) (hb2 : d2.bal < M) : InR v (some ⟨b, 0, none⟩) [(d1, ⟨none, 0, 0⟩), (d2, ⟨none, 0, 0⟩)] := by
 refine ⟨.inr ⟨b, 0, rfl, fun i p hp => ?_⟩, fun p hp => ?_, fun p hp => ?_, fun p hp => ?_, fun p hp q hq => ?_, by simp⟩
 ·rw [Nat.zero_add]
  rcases i with _ | _ | i
  ·simp only [List.getElem?_cons_zero, Option.some.injEq] at hp
   subst hp
   intro j x hj
   rw [Nat.zero_mul, Nat.zero_add, blk_cell h j]
   unfold row2
   rw [List.getElem?_toArray, List.getElem?_append_left (List.getElem?_eq_some_iff.1 hj).1]
   exact hj
  ·simp only [Nat.zero_add, List.getElem?_cons_succ, List.getElem?_cons_zero, Option.some.injEq] at hp
   subst hp
   intro j x hj
   rw [blk_cell h]
   unfold row2
   rw [List.getElem?_toArray, List.getElem?_append_right (by simp [accCells])]
   have e : (0 + 1) * 8 + j - (accCells d1 ⟨none, 0, 0⟩).length = j := by simp [accCells]
   rw [e]
   exact hj
  ·simp at hp
 ·simp only [List.mem_cons, List.not_mem_nil, or_false] at hp
  rcases hp with rfl | rfl
  ·exact ⟨by simp [h1], .inl h1⟩
  ·exact ⟨by simp [h2], .inl h2⟩
 ·simp only [List.mem_cons, List.not_mem_nil, or_false] at hp
  rcases hp with rfl | rfl
  ·exact hb1
  ·exact hb2
 ·simp only [List.mem_cons, List.not_mem_nil, or_false] at hp
  rcases hp with rfl | rfl
  ·simp [h1]
  ·simp [h2]
 ·simp only [List.mem_cons, List.not_mem_nil, or_false] at hp
  rcases hp with rfl | rfl
  ·rw [h1] at hq; cases hq
  ·rw [h2] at hq; cases hq
abbrev d12a : AccD := ⟨1, 30000, 0, ⟨#[]⟩, []⟩
abbrev d12b : AccD := ⟨2, 0, 0, ⟨#[]⟩, []⟩
theorem pre12 (u : World) (Φ : Act -> World -> Prop) (hΦ : ∀ x7 x8 x9 b v', Below u.heap.size u v' -> u.heap.size <= b -> v'.heap[b]? = some (.cells (row2 d12a d12b) 52 (0, 0)) -> Φ ⟨#[.bool false, undef, undef, undef, undef, undef, undef, x7, x8, x9, .slice (some ⟨b, 0, none⟩) 2 2, undef, undef, undef, undef, undef, undef, undef, undef, undef, undef, undef, undef, undef, undef, undef, undef, undef, undef, undef, undef, undef, undef, undef, undef, undef, undef, undef, undef, undef] ++ #[undef, undef, undef, undef, undef, undef, undef, undef, undef, undef, undef, undef, undef, undef, undef, undef, undef, undef, undef, undef, undef, undef, undef, undef, undef, undef, undef, undef, undef, undef, undef, undef, undef, undef, undef, undef], []⟩ v') :
  wpOps TryQ.prog ops12 (fun e a' v' => e = .normal /\ a'.defers = [] /\ Φ a' v') [0, 1, 2, 3] ⟨#[.bool false, undef, undef, undef, undef, undef, undef, undef, undef, undef, undef, undef, undef, undef, undef, undef, undef, undef, undef, undef, undef, undef, undef, undef, undef, undef, undef, undef, undef, undef, undef, undef, undef, undef, undef, undef, undef, undef, undef, undef] ++ #[undef, undef, undef, undef, undef, undef, undef, undef, undef, undef, undef, undef, undef, undef, undef, undef, undef, undef, undef, undef, undef, undef, undef, undef, undef, undef, undef, undef, undef, undef, undef, undef, undef, undef, undef, undef], []⟩ u := by
 simp only [List.append_toArray, List.cons_append, List.nil_append] at hΦ ⊢
 obtain ⟨lo, hlo⟩ : ∃ l, l = ops12.toList.take 4 := ⟨_, rfl⟩
 have hlo' := hlo
 simp only [ops12, Tryz.f12, List.take_succ_cons, List.take_zero] at hlo'
 refine wpOps_first lo 4 (by rw [hlo']; rfl) (fun j hj => by rw [hlo, List.getElem?_take_of_lt (by rw [hlo'] at hj; simpa using hj)]; simp) ?_
 rw [hlo']
 dsimp only [ops12, Tryz.f12]
 clear hlo' hlo lo
 have hof : Calls TryQ.prog 21 #[.int .i64 30000] u _ := of21 30000 (by decide) u
 have hΦs : Shut _ := hΦ
 clear hΦ
 go_wp2_with fail
 refine hof.mono ?_
 rintro e w1 ⟨rfl, hb1⟩
 clear hof
 unfold wd
 go_wp2_with fail
 have e : row2 d12a d12b = #[.int .i64 1, .int .u64 (lim 30000 0), .int .u64 (lim 30000 1), .int .u64 (lim 30000 2), .int .u64 (lim 30000 3), .int .i64 0, .string ⟨#[]⟩, .slice none 0 0, .int .i64 2, .int .u64 0, .int .u64 0, .int .u64 0, .int .u64 0, .int .i64 0, .string ⟨#[]⟩, .slice none 0 0] := by simp [row2, accCells, lim0]
 exact hΦs.out _ _ _ w1.heap.size _ (hb1.trans ((Below.refl _ _).alloc (Nat.le_refl _) _ |>.mono hb1.size)) hb1.size (by rw [e]; exact blk_new w1 _)
abbrev d14a : AccD := ⟨1, 1000000, 0, ⟨#[]⟩, []⟩
abbrev d14b (st : ByteArray) : AccD := ⟨2, 50, 0, st, []⟩
theorem pre14 (u : World) (st : ByteArray) (Φ : Act -> World -> Prop) (hΦ : ∀ x6 x7 x8 x9 x10 b v', Below u.heap.size u v' -> u.heap.size <= b -> v'.heap[b]? = some (.cells (row2 d14a (d14b st)) 52 (0, 0)) -> Φ ⟨#[.string st, undef, .pointer none, undef, undef, undef, x6, x7, x8, x9, x10, .slice (some ⟨b, 0, none⟩) 2 2, undef, undef, undef, undef], []⟩ v') :
  wpOps TryQ.prog ops14 (fun e a' v' => e = .normal /\ a'.defers = [] /\ Φ a' v') [0, 1, 2, 3, 4, 5] ⟨#[.string st, undef, .pointer none, undef, undef, undef, undef, undef, undef, undef, undef, undef, undef, undef, undef, undef], []⟩ u := by
 obtain ⟨lo, hlo⟩ : ∃ l, l = ops14.toList.take 6 := ⟨_, rfl⟩
 have hlo' := hlo
 simp only [ops14, Tryz.f14, List.take_succ_cons, List.take_zero] at hlo'
 refine wpOps_first lo 6 (by rw [hlo']; rfl) (fun j hj => by rw [hlo, List.getElem?_take_of_lt (by rw [hlo'] at hj; simpa using hj)]; simp) ?_
 rw [hlo']
 dsimp only [ops14, Tryz.f14]
 clear hlo' hlo lo
 have hof : Calls TryQ.prog 21 #[.int .i64 1000000] u _ := of21 1000000 (by decide) u
 have hΦs : Shut _ := hΦ
 clear hΦ
 go_wp2_with fail
 refine hof.mono ?_
 rintro e w1 ⟨rfl, hb1⟩
 clear hof
 have hof : Calls TryQ.prog 21 #[.int .i64 50] w1 _ := of21 50 (by decide) w1
 unfold wd
 go_wp2_with fail
 refine hof.mono ?_
 rintro e w2 ⟨rfl, hb2⟩
 clear hof
 unfold wd
 go_wp2_with fail
 have hbA := hb1.trans (hb2.mono hb1.size)
 have e : row2 d14a (d14b st) = #[.int .i64 1, .int .u64 (lim 1000000 0), .int .u64 (lim 1000000 1), .int .u64 (lim 1000000 2), .int .u64 (lim 1000000 3), .int .i64 0, .string ⟨#[]⟩, .slice none 0 0, .int .i64 2, .int .u64 (lim 50 0), .int .u64 (lim 50 1), .int .u64 (lim 50 2), .int .u64 (lim 50 3), .int .i64 0, .string st, .slice none 0 0] := by simp [row2, accCells]
 exact hΦs.out _ _ _ _ _ w2.heap.size _ (hbA.trans ((Below.refl _ _).alloc (Nat.le_refl _) _ |>.mono hbA.size)) hbA.size (by rw [e]; exact blk_new w2 _)
theorem rest14 (u : World) (st : ByteArray) (x6 x7 x8 x9 x10 x11 : Value) (pw : Nat) (Ψ : Value -> World -> Prop) (hΨ : Ψ (.pointer (some ⟨pw, 0, none⟩)) u) :
  wpOps TryQ.prog ops14 (fun e a' v' => e = .normal /\ c14.wp TryQ.prog (bodyPost TryQ.prog Tryz.f14 fun e v' => ∃ val, e = .returned val /\ Ψ val v') a' v') [7, 8, 9, 10, 11] ⟨#[.string st, undef, .pointer none, undef, undef, undef, x6, x7, x8, x9, x10, x11, .tuple #[.pointer (some ⟨pw, 0, none⟩), .nilIface], undef, undef, undef], []⟩ u := by
 obtain ⟨fn, hfn⟩ : ∃ fn, fn = Tryz.f14 := ⟨_, rfl⟩
 have hres : fn.results = #[ResultVar.tmp 2] := by rw [hfn]; exact Tryz.results14
 rw [<- hfn]
 clear hfn
 obtain ⟨lo, hlo⟩ : ∃ l, l = ops14.toList.drop 7 := ⟨_, rfl⟩
 have hlo' := hlo
 simp only [ops14, Tryz.f14, List.drop_succ_cons, List.drop_zero] at hlo'
 refine wpOps_rest lo 7 5 (by rw [hlo']; rfl) (fun j => by rw [hlo]; simp) ?_
 rw [hlo']
 dsimp only [c14, ops14, Tryz.f14]
 clear hlo' hlo lo
 go_wp2
 simp [bodyPost, results, hres, go_sem]
 exact hΨ
theorem pick13 (c : Int) (n : Nat) (hn : 0 < n) (hn' : n < 100000) (hc : -9223372036854775808 <= c) (hc' : c <= 9223372036854775807) (W : World) :
  Calls TryQ.prog 13 #[.int .i64 c, .int .i64 (n : Int)] W fun e w' => (∃ r : Nat, r < n /\ e = .returned (.int .i64 (r : Int))) /\ w' = W := by
 have hnz : ¬ (n : Int) = 0 := by omega
 by_cases h0 : c < 0
 ·have i1 : IntKind.i64.wrap (c + 1) = c + 1 := IntWalk.i64_in _ ⟨by omega, by omega⟩
  have i2 : IntKind.i64.wrap (-(c + 1)) = -(c + 1) := IntWalk.i64_in _ ⟨by omega, by omega⟩
  obtain ⟨m, hm⟩ : ∃ m : Nat, -(c + 1) = (m : Int) := ⟨(-(c + 1)).toNat, by omega⟩
  rw [hm] at i2
  go_enter TryQ.func13, Tryz.ntmps13
  go_wp2_with fail
  go_ret
  exact ⟨⟨m % n, Nat.mod_lt _ hn, by simp⟩, rfl⟩
 ·obtain ⟨m, rfl⟩ : ∃ m : Nat, c = (m : Int) := ⟨c.toNat, by omega⟩
  go_enter TryQ.func13, Tryz.ntmps13
  go_wp2
  go_ret
  exact ⟨⟨m % n, Nat.mod_lt _ hn, by simp⟩, rfl⟩
theorem chain4 (n : Int) (vg : Value) (hn : -9223372036854775808 <= n) (hn' : n <= 9223372036854775807) (u : World) (Φ : Act -> World -> Prop) (hΦ : ∀ (k : Nat) x13 x14 x15, 1 <= k -> k <= 255 -> Φ ⟨#[.int .i64 n, vg, undef, undef, .bool false, .bool true, .int .i64 (k : Int), undef, undef, undef, undef, undef, .bool true, x13, x14, x15, undef, undef, undef, undef, undef, undef, undef, undef, undef, undef, undef, undef, undef, undef, undef, undef, undef, undef, undef, undef, undef, undef, undef, undef, undef, undef, undef, undef, undef, undef, undef, undef, undef, undef, undef, undef, undef, undef, undef, undef, undef, undef, undef, undef, undef, undef, undef, undef], []⟩ u) :
  wpChain TryQ.prog (fun a' v' => a'.defers = [] /\ Φ a' v') [p4] ⟨#[.int .i64 n, vg, undef, undef, .bool false, .bool true, undef, undef, undef, undef, undef, undef, .bool true, undef, undef, undef, undef, undef, undef, undef, undef, undef, undef, undef, undef, undef, undef, undef, undef, undef, undef, undef, undef, undef, undef, undef, undef, undef, undef, undef, undef, undef, undef, undef, undef, undef, undef, undef, undef, undef, undef, undef, undef, undef, undef, undef, undef, undef, undef, undef, undef, undef, undef, undef], []⟩ u := by
 show p4.wp TryQ.prog _ _ _
 have hpk := pick13 n 255 (by decide) (by decide) hn hn' u
 have hpk' : Calls TryQ.prog 13 #[.int .i64 n, .int .i64 255] u _ := hpk
 have hΦs : Shut _ := hΦ
 clear hΦ hpk
 dsimp only [p4, c4, Tryz.f4]
 go_wp2_with fail
 refine hpk'.mono ?_
 rintro e w1 ⟨⟨r, hr, rfl⟩, hw⟩
 subst hw
 clear hpk'
 have i1 : IntKind.i64.wrap (1 + (r : Int)) = 1 + (r : Int) := IntWalk.i64_in _ ⟨by omega, by omega⟩
 have e1 : (1 + (r : Int)) = ((1 + r : Nat) : Int) := by omega
 have e1s : Shut _ := e1
 clear e1
 go_wp2_with fail
 simp only [e1s.out]
 refine ⟨rfl, hΦs.out (1 + r) _ _ _ (by omega) (by omega)⟩
end Go.Mark
set_option maxRecDepth 100000
set_option maxHeartbeats 4000000
namespace Go.Mark
open Go.RowKit Go.Proofs Go.Lift
variable [BaseB]
theorem on0_bare {B : Nat} {D : Nat -> Prop} {w w' u v' : World} (hk : Dk B D w) (hu : Rel (veil D) w u) (hr : Rel (veil D) w' v') (hs : Stays w w' v') (hB : B <= w.heap.size) (hb : Below B u v') (hz : ∀ (b : Nat) (e : TypeId), u.heap[b]? = some (.cells #[] e) -> ∃ c f, v'.heap[b]? = some (.cells c e f)) : On0 B D w w' v' := by
 have kw : ∀ b, b < B -> w'.heap[b]? = w.heap[b]? := fun b hlt => by
  have hnd : ∀ o, v'.heap[b]? = some o -> ¬ Off o -> ¬ D b := fun o hv hoff hd => by
   rcases dk_v hk hu b hd with ⟨h1, _⟩ | ⟨_, h1⟩
   ·omega
   ·rw [<- hb.block b hlt, hv] at h1
    cases h1
    exact hoff (.inr rfl)
  cases hv : v'.heap[b]? with
  | none =>
   have := Array.getElem?_eq_none_iff.1 hv
   have := hu.size
   have := hb.size
   omega
  | some o =>
   by_cases hoff : Off o
   ·exact hs b o hv hoff (by omega)
   ·have hn := hnd o hv hoff
    have hl := hr.look b
    have hl' := hu.look b
    rw [<- hb.block b hlt] at hl'
    rw [hv] at hl hl'
    generalize w'.heap[b]? = x at hl ⊢
    generalize w.heap[b]? = y at hl' ⊢
    cases hl with
    | dark hd => exact absurd hd hn
    | shut hd => exact absurd hd hn
    | view _ hbl => exact absurd (Or.inl (by cases o <;> first | exact hbl.elim | trivial)) hoff
    | same _ =>
     cases hl' with
     | dark hd => exact absurd hd hn
     | shut hd => exact absurd hd hn
     | view _ hbl => exact absurd (Or.inl (by cases o <;> first | exact hbl.elim | trivial)) hoff
     | same _ => rfl
 refine ⟨hr, fun b hd => ?_, kw, ⟨by rw [<- hr.os, hb.os, hu.os], by rw [<- hr.out, hb.output, hu.out]⟩, by rw [<- hr.size, <- hu.size]; exact hb.size⟩
 rcases hk b hd with ⟨h1, c, e, hc⟩ | ⟨h1, o, h2, h3, h4⟩
 ·rcases dk_v hk hu b hd with ⟨_, e', he⟩ | ⟨h2, _⟩
  ·refine .inl ⟨h1, ?_⟩
   obtain ⟨c', f', hv⟩ := hz b e' he
   have hl := hr.look b
   rw [hv] at hl
   generalize w'.heap[b]? = x at hl
   cases hl with
   | dark _ => exact ⟨_, _, rfl⟩
   | view _ hbl => exact hbl.elim
   | same hs => exact absurd trivial ((hs _ rfl).2 hd)
  ·omega
 ·exact .inr ⟨h1, o, (kw b h1).trans h2, h3, h4⟩
theorem marks_cd (kb : UInt8) : (marks ⟨cd kb⟩ 12 0 (zeros 12))[2]? = some (.bool true) := by kernel_rfl
theorem pre43 (n : Int) (vg x13 x14 x15 : Value) (k : Nat) (hk1 : 1 <= k) (hk2 : k <= 255) (u : World) (Φ : Act -> World -> Prop) (hΦ : ∀ x16 x17 x18 x19 x20 st v', Below u.heap.size u v' -> ByteArray.data st = cd (UInt8.ofNat k) -> Φ ⟨#[.int .i64 n, vg, undef, undef, .bool false, .bool true, .int .i64 (k : Int), undef, undef, undef, undef, undef, .bool true, x13, x14, x15, x16, x17, x18, x19, x20, .string st, undef, undef, undef, undef, undef, undef, undef, undef, undef, undef, undef, undef, undef, undef, undef, undef, undef, undef, undef, undef, undef, undef, undef, undef, undef, undef, undef, undef, undef, undef, undef, undef, undef, undef, undef, undef, undef, undef, undef, undef, undef, undef], []⟩ v') :
  wpOps TryQ.prog ops43 (fun e a' v' => e = .normal /\ a'.defers = [] /\ Φ a' v') [0, 1, 2, 3, 4, 5] ⟨#[.int .i64 n, vg, undef, undef, .bool false, .bool true, .int .i64 (k : Int), undef, undef, undef, undef, undef, .bool true, x13, x14, x15, undef, undef, undef, undef, undef, undef, undef, undef, undef, undef, undef, undef, undef, undef, undef, undef, undef, undef, undef, undef, undef, undef, undef, undef, undef, undef, undef, undef, undef, undef, undef, undef, undef, undef, undef, undef, undef, undef, undef, undef, undef, undef, undef, undef, undef, undef, undef, undef], []⟩ u := by
 obtain ⟨lo, hlo⟩ : ∃ l, l = ops43.toList.take 6 := ⟨_, rfl⟩
 have hlo' := hlo
 simp only [ops43, d4, c4, Tryz.f4, List.take_succ_cons, List.take_zero] at hlo'
 refine wpOps_first lo 6 (by rw [hlo']; rfl) (fun j hj => by rw [hlo, List.getElem?_take_of_lt (by rw [hlo'] at hj; simpa using hj)]; simp) ?_
 rw [hlo']
 dsimp only [ops43, d4, c4, Tryz.f4]
 clear hlo' hlo lo
 have hkb : (UInt8.ofNat k).toNat = k := by simp; omega
 have hcb := run_convert_bytes_back (P := TryQ.prog) (u.alloc (.cells #[.int .u8 (k : Int)] 5)) 31 9 5 ⟨u.heap.size, 0, none⟩ 1 [UInt8.ofNat k] ((q_underlying 31).trans Tryz.underlying31) ((q_underlying 5).trans Tryz.underlying5) ((q_underlying 9).trans Tryz.underlying9) (fun j hj => by
  have : j = 0 := by simp at hj; omega
  subst this
  simp [Addr.add]; omega)
 simp only [List.length_cons, List.length_nil, Nat.zero_add] at hcb
 clear hkb
 have hΦs : Shut _ := hΦ
 clear hΦ
 go_wp2_with fail
 exact hΦs.out _ _ _ _ _ _ _ ba (by simp [cd])
end Go.Mark
set_option maxRecDepth 100000
set_option maxHeartbeats 4000000
namespace Go.Mark
open Go.Conc Go.Walk Go.Phase Go.RowKit Go.Conc.Lib Go.ConcR.Gen Go.ConcN.Gen Go.Lift Go.Proofs
open Go.ConcN (WgLive Has RW DWs AtR0 PayAt)
open Go.ConcR (KK WgAt stA smA rd wr mk Payload)
variable [BaseB]
def hd : Code -> Code
 | .seq c _ => c
 | c => c
def tl : Code -> Code
 | .seq _ c => c
 | c => c
noncomputable def g5 : List Code := [hd r4, hd (tl r4), hd (tl (tl r4)), hd (tl (tl (tl r4))), hd (tl (tl (tl (tl r4))))]
noncomputable def q4 : Code := tl (tl (tl (tl (tl r4))))
noncomputable def r12 : Code := match hd q4 with
 | .seq _ (.cond _ (.seq c _) _) => c
 | _ => .skip
noncomputable def r13 : Code := hd (tl q4)
theorem r4_eq : r4 = chain g5 q4 := by kernel_rfl
theorem okr5 : okCode Tryz.prog (chain g5 q4) = true := by kernel_rfl
theorem okq4 : okCode Tryz.prog q4 = true := by kernel_rfl
theorem okr12 : okCode Tryz.prog (chain [r12] .ret) = true := by kernel_rfl
theorem okr13 : okCode Tryz.prog (chain [r13] .ret) = true := by kernel_rfl
theorem okr13' : okCode Tryz.prog (.seq r13 .ret) = true := by kernel_rfl
attribute [local go_sem] wd
theorem chain5 {u : World} {l m dmb bb mcap pw : Nat} {cr : Int} {L : List (Int × Nat × Ac)} {a d li : Addr} (h : LG u l m ⟨dmb, []⟩ cr L []) (hpo : u.heap[pw]? = some (.cells #[.pointer (some ⟨l, 0, none⟩)] 87 (0, 0))) (hb0 : BaseB.b0 <= u.heap.size) (hgl : Glob u a d li) {q p : Int × Nat × Ac} (hq : q ∈ L) (hp : p ∈ L) (hne : q.2.1 ≠ p.2.1) (hq1 : q.1 = 1) (hp1 : p.1 = 2) (hbal : q.2.2.bal = 1000000) (hno : q.2.2.nonce = 0) (k : Nat) (hk1 : 1 <= k) (hk2 : k <= 255) (hcode : p.2.2.code.data = cd (UInt8.ofNat k)) (hmk : p.2.2.mark = ⟨some ⟨bb, 0, none⟩, 12, mcap⟩) {cs : Array Value} (hbb : u.heap[bb]? = some (.cells cs 4 (0, 0))) (hcs : cs[2]? = some (.bool true))
  (vn x13 x14 x15 x16 x17 x18 x19 x20 x21 x22 : Value) (z : Int) (hz : -9223372036854775808 <= z) (hz' : z <= 9223372036854775807) (Φ : Act -> World -> Prop)
  (hΦ : ∀ (r rb : Nat) (x23 x24 x25 x26 x27 x28 x29 x30 x31 x32 x33 x34 x35 x36 x37 x38 x39 x40 x41 x42 x43 : Value) (v' : World), Bz u v' -> v'.heap[rb]? = some (.cells (resC (outR (21003 + 26 * k) (21000 + r)).good (outR (21003 + 26 * k) (21000 + r)).k (outR (21003 + 26 * k) (21000 + r)).s) 34 (0, 0)) -> Φ ⟨#[vn, .int .i64 z, undef, undef, .bool false, .bool true, .int .i64 (k : Int), .pointer (some ⟨pw, 0, none⟩), .int .i64 (21000 + (r : Int)), .int .i64 (21003 + 26 * (k : Int)), .pointer (some ⟨rb, 0, none⟩), .nilIface, .bool true, x13, x14, x15, x16, x17, x18, x19, x20, x21, x22, x23, x24, x25, x26, x27, x28, x29, x30, x31, x32, x33, x34, x35, x36, x37, x38, x39, x40, x41, x42, x43, undef, undef, undef, undef, undef, undef, undef, undef, undef, undef, undef, undef, undef, undef, undef, undef, undef, undef, undef, undef], []⟩ v') :
  wpChain TryQ.prog (fun a' v' => a'.defers = [] /\ Φ a' v') g5 ⟨#[vn, .int .i64 z, undef, undef, .bool false, .bool true, .int .i64 (k : Int), .pointer (some ⟨pw, 0, none⟩), undef, undef, undef, undef, .bool true, x13, x14, x15, x16, x17, x18, x19, x20, x21, x22, undef, undef, undef, undef, undef, undef, undef, undef, undef, undef, undef, undef, undef, undef, undef, undef, undef, undef, undef, undef, undef, undef, undef, undef, undef, undef, undef, undef, undef, undef, undef, undef, undef, undef, undef, undef, undef, undef, undef, undef, undef], []⟩ u := by
 have hpk := pick13 z 8000 (by decide) (by decide) hz hz' u
 have hpk' : Calls TryQ.prog 13 #[.int .i64 z, .int .i64 8000] u _ := hpk
 clear hpk
 have hkb : (UInt8.ofNat k).toNat = k := by simp; omega
 have hall := fun g h0 h1 => doLoop15 h (by rw [blk_cell hpo 0]; rfl) (blk_lt hpo) hgl hq hp hne hq1 hp1 hbal hno hcode (by rw [hkb]; exact hk1) hmk hbb hcs g h0 h1 ⟨_, _, hpo, by decide, by decide, by decide, by decide⟩
 rw [hkb] at hall
 have hbz : ∀ w', Pres [l, q.2.1, p.2.1, dmb] [262, 41] u w' -> Bz u w' := fun w' hp' => by
  have h1 := (h.lo q hq).1
  have h2 := (h.lo p hp).1
  have h3 := h.mlo
  have h4 := h.lj.lo
  refine hp'.bz (hp'.low (fun b hb => ?_) hb0) (fun b hb => ?_)
  ·simp only [List.mem_cons, List.not_mem_nil, or_false] at hb
   simp only at h3
   omega
  ·obtain ⟨jv, hl, _⟩ := h.lj.ex
   obtain ⟨cd', hd⟩ := dml_nil h.dmap
   simp only [List.mem_cons, List.not_mem_nil, or_false] at hb
   rcases hb with rfl | rfl | rfl | rfl
   ·exact row_ne hl (by simp)
   ·exact row_ne (h.acc q hq) (by simp [acCells])
   ·exact row_ne (h.acc p hp) (by simp [acCells])
   ·exact map_ne hd
 clear hkb hbb hcs hmk hcode hno hbal hp1 hq1 hne hgl h hpo hq hp
 have hΦs : Shut _ := hΦ
 have has : Shut _ := hall
 have hbzs : Shut _ := hbz
 clear hΦ hall hbz
 dsimp only [g5, wpChain, hd, tl, r4, d4, c4, Tryz.f4]
 go_wp2_with fail
 refine hpk'.mono ?_
 rintro e w1 ⟨⟨r, hr, rfl⟩, hw⟩
 subst hw
 clear hpk'
 have i1 : IntKind.i64.wrap (21000 + (r : Int)) = 21000 + (r : Int) := IntWalk.i64_in _ ⟨by omega, by omega⟩
 have i2 : IntKind.i64.wrap (26 * (k : Int)) = 26 * (k : Int) := IntWalk.i64_in _ ⟨by omega, by omega⟩
 have i3 : IntKind.i64.wrap (21003 + 26 * (k : Int)) = 21003 + 26 * (k : Int) := IntWalk.i64_in _ ⟨by omega, by omega⟩
 go_wp2_with fail
 have hdo := has.out (21000 + r) (by omega) (by omega)
 have e0 : ((21000 + r : Nat) : Int) = 21000 + (r : Int) := by omega
 unfold ordC at hdo
 rw [e0] at hdo
 clear has i1 i2 i3
 refine hdo.mono ?_
 rintro e w2 ⟨o, rfl, ho, hp2⟩
 clear hdo
 unfold resC
 go_wp2_with fail
 exact hΦs.out r w2.heap.size _ _ _ _ _ _ _ _ _ _ _ _ _ _ _ _ _ _ _ _ _ _ ((hbzs.out w2 hp2).grow hb0 ba) (blk_new w2 _)
section
variable {h0 : Array Obj} {cs : List Frame}
theorem sLp6y {zg zn : Int} {rb : Nat} (hge : zn <= zg) (x0 x1 x5 x6 x7 x11 x12 x13 x14 x15 x16 x17 x18 x19 x20 x21 x22 x23 x24 x25 x26 x27 x28 x29 x30 x31 x32 x33 x34 x35 x36 x37 x38 x39 x40 x41 x42 x43 : Value) : GoW Tryz.prog true AtRel DSil (fun g w => g = G ((base 4).at ⟨#[x0, x1, undef, undef, .bool false, x5, x6, x7, .int .i64 zg, .int .i64 zn, .pointer (some ⟨rb, 0, none⟩), x11, x12, x13, x14, x15, x16, x17, x18, x19, x20, x21, x22, x23, x24, x25, x26, x27, x28, x29, x30, x31, x32, x33, x34, x35, x36, x37, x38, x39, x40, x41, x42, x43, .int .i64 zg, .int .i64 zn, .bool true, undef, undef, undef, undef, undef, undef, undef, undef, undef, undef, undef, undef, undef, undef, undef, undef, undef], []⟩ ([.code (.seq r12 .ret), .code (.seq r13 .ret)])) cs /\ w.heap = h0) (fun w => w.heap = h0) 40
   (G ((base 4).at ⟨#[x0, x1, undef, undef, .bool false, x5, x6, x7, .int .i64 zg, .int .i64 zn, .pointer (some ⟨rb, 0, none⟩), x11, x12, x13, x14, x15, x16, x17, x18, x19, x20, x21, x22, x23, x24, x25, x26, x27, x28, x29, x30, x31, x32, x33, x34, x35, x36, x37, x38, x39, x40, x41, x42, x43, undef, undef, undef, undef, undef, undef, undef, undef, undef, undef, undef, undef, undef, undef, undef, undef, undef, undef, undef, undef], []⟩ ([.code q4])) cs) := by
 have E := envS h0
 obtain ⟨bd, hbd⟩ : ∃ c, c = r12 := ⟨_, rfl⟩
 have hbd' := hbd
 simp only [r12, hd, q4, tl, r4, d4, c4, Tryz.f4] at hbd'
 obtain ⟨be, hbe⟩ : ∃ c, c = r13 := ⟨_, rfl⟩
 have hbe' := hbe
 simp only [r13, hd, q4, tl, r4, d4, c4, Tryz.f4] at hbe'
 rw [<- hbd, <- hbe]
 simp only [q4, tl, r4, d4, c4, Tryz.f4]
 rw [<- hbd', <- hbe']
 clear hbd hbd' hbe hbe'
 refine gw_seq E ?_
 refine gw_seq E ?_
 refine gw_region_3 E ?_
 refine gw_opk E rfl rfl (by k_ne) (fun w hF K hK => ?_)
 go_simp
 refine hK _ (by simp [go_sem, *]) ?_
 clear hK K hF w
 refine gw_opk E rfl rfl (by k_ne) (fun w hF K hK => ?_)
 go_simp
 refine hK _ (by simp [go_sem, *]) ?_
 clear hK K hF w
 refine gw_opk E rfl rfl (by k_ne) (fun w hF K hK => ?_)
 go_simp
 refine hK _ (by simp [go_sem, *]) ?_
 clear hK K hF w
 refine gw_region_end E ?_
 refine gw_true E (by simp [Act.eval]) ?_
 exact gw_stop E (fun w hw => ⟨rfl, hw⟩)
theorem sLp6n {zg zn : Int} {rb : Nat} (hge : ¬ zn <= zg) (x0 x1 x5 x6 x7 x11 x12 x13 x14 x15 x16 x17 x18 x19 x20 x21 x22 x23 x24 x25 x26 x27 x28 x29 x30 x31 x32 x33 x34 x35 x36 x37 x38 x39 x40 x41 x42 x43 : Value) : GoW Tryz.prog true AtRel DSil (fun g w => g = G ((base 4).at ⟨#[x0, x1, undef, undef, .bool false, x5, x6, x7, .int .i64 zg, .int .i64 zn, .pointer (some ⟨rb, 0, none⟩), x11, x12, x13, x14, x15, x16, x17, x18, x19, x20, x21, x22, x23, x24, x25, x26, x27, x28, x29, x30, x31, x32, x33, x34, x35, x36, x37, x38, x39, x40, x41, x42, x43, .int .i64 zg, .int .i64 zn, .bool false, undef, undef, undef, undef, undef, undef, undef, undef, undef, undef, undef, undef, undef, undef, undef, undef, undef], []⟩ ([.code (.seq r13 .ret)])) cs /\ w.heap = h0) (fun w => w.heap = h0) 40
   (G ((base 4).at ⟨#[x0, x1, undef, undef, .bool false, x5, x6, x7, .int .i64 zg, .int .i64 zn, .pointer (some ⟨rb, 0, none⟩), x11, x12, x13, x14, x15, x16, x17, x18, x19, x20, x21, x22, x23, x24, x25, x26, x27, x28, x29, x30, x31, x32, x33, x34, x35, x36, x37, x38, x39, x40, x41, x42, x43, undef, undef, undef, undef, undef, undef, undef, undef, undef, undef, undef, undef, undef, undef, undef, undef, undef, undef, undef, undef], []⟩ ([.code q4])) cs) := by
 have E := envS h0
 obtain ⟨bd, hbd⟩ : ∃ c, c = r12 := ⟨_, rfl⟩
 have hbd' := hbd
 simp only [r12, hd, q4, tl, r4, d4, c4, Tryz.f4] at hbd'
 obtain ⟨be, hbe⟩ : ∃ c, c = r13 := ⟨_, rfl⟩
 have hbe' := hbe
 simp only [r13, hd, q4, tl, r4, d4, c4, Tryz.f4] at hbe'
 rw [<- hbe]
 simp only [q4, tl, r4, d4, c4, Tryz.f4]
 rw [<- hbd', <- hbe']
 clear hbd hbd' hbe hbe'
 refine gw_seq E ?_
 refine gw_seq E ?_
 refine gw_region_3 E ?_
 refine gw_opk E rfl rfl (by k_ne) (fun w hF K hK => ?_)
 go_simp
 refine hK _ (by simp [go_sem, *]) ?_
 clear hK K hF w
 refine gw_opk E rfl rfl (by k_ne) (fun w hF K hK => ?_)
 go_simp
 refine hK _ (by simp [go_sem, *]) ?_
 clear hK K hF w
 refine gw_opk E rfl rfl (by k_ne) (fun w hF K hK => ?_)
 go_simp
 refine hK _ (by simp [go_sem, *]) ?_
 clear hK K hF w
 refine gw_region_end E ?_
 refine gw_false E (by simp [Act.eval]) ?_
 refine gw_skip E ?_
 exact gw_stop E (fun w hw => ⟨rfl, hw⟩)
theorem sLp7 {k : List Item} (T : Array Value) (hT : T[4]? = some (.bool true)) : GoW Tryz.prog true AtRel DSil (fun g w => (∃ (T : Array Value) (todo : List Item), g = G { (base 4).at ⟨T, []⟩ todo with mode := .returning } cs /\ T[4]? = some (.bool true)) /\ w.heap = h0) (fun w => w.heap = h0) 5
   (G ((base 4).at ⟨T, []⟩ (.code .ret :: k)) cs) := by
 have E0 := envS h0
 refine gw_ret E0 ?_
 exact gw_stop E0 (fun w hw => ⟨⟨_, _, rfl, hT⟩, hw⟩)
end
theorem end_r12 {zg zn : Int} {rb : Nat} {st : ByteArray} (x0 x1 x5 x6 x7 x11 x12 x13 x14 x15 x16 x17 x18 x19 x20 x21 x22 x23 x24 x25 x26 x27 x28 x29 x30 x31 x32 x33 x34 x35 x36 x37 x38 x39 x40 x41 x42 x43 : Value) (u : World) (hr : u.heap[rb]? = some (.cells (resC true zn st) 34 (0, 0))) (Φ : Act -> World -> Prop) (hΦ : ∀ T : Array Value, T[4]? = some (.bool true) -> Φ ⟨T, []⟩ u) :
  wpChain TryQ.prog (fun a' v' => a'.defers = [] /\ Φ a' v') [r12] ⟨#[x0, x1, undef, undef, .bool false, x5, x6, x7, .int .i64 zg, .int .i64 zn, .pointer (some ⟨rb, 0, none⟩), x11, x12, x13, x14, x15, x16, x17, x18, x19, x20, x21, x22, x23, x24, x25, x26, x27, x28, x29, x30, x31, x32, x33, x34, x35, x36, x37, x38, x39, x40, x41, x42, x43, .int .i64 zg, .int .i64 zn, .bool true, undef, undef, undef, undef, undef, undef, undef, undef, undef, undef, undef, undef, undef, undef, undef, undef, undef], []⟩ u := by
 have k0 := blk_cell hr 0
 have k1 := blk_cell hr 1
 simp only [resC, List.getElem?_toArray, List.getElem?_cons_zero, List.getElem?_cons_succ] at k0 k1
 clear hr
 have hΦs : Shut _ := hΦ
 clear hΦ
 dsimp only [wpChain, r12, q4, hd, tl, r4, d4, c4, Tryz.f4]
 go_wp2
 refine hΦs.out _ (by simp)
theorem end_r13 {zg zn : Int} {rb : Nat} {st : ByteArray} (x0 x1 x5 x6 x7 x11 x12 x13 x14 x15 x16 x17 x18 x19 x20 x21 x22 x23 x24 x25 x26 x27 x28 x29 x30 x31 x32 x33 x34 x35 x36 x37 x38 x39 x40 x41 x42 x43 x46 : Value) (u : World) (hr : u.heap[rb]? = some (.cells (resC false zg st) 34 (0, 0))) (Φ : Act -> World -> Prop) (hΦ : ∀ T : Array Value, T[4]? = some (.bool true) -> Φ ⟨T, []⟩ u) :
  wpChain TryQ.prog (fun a' v' => a'.defers = [] /\ Φ a' v') [r13] ⟨#[x0, x1, undef, undef, .bool false, x5, x6, x7, .int .i64 zg, .int .i64 zn, .pointer (some ⟨rb, 0, none⟩), x11, x12, x13, x14, x15, x16, x17, x18, x19, x20, x21, x22, x23, x24, x25, x26, x27, x28, x29, x30, x31, x32, x33, x34, x35, x36, x37, x38, x39, x40, x41, x42, x43, .int .i64 zg, .int .i64 zn, x46, undef, undef, undef, undef, undef, undef, undef, undef, undef, undef, undef, undef, undef, undef, undef, undef, undef], []⟩ u := by
 have k0 := blk_cell hr 0
 have k1 := blk_cell hr 1
 simp only [resC, List.getElem?_toArray, List.getElem?_cons_zero, List.getElem?_cons_succ] at k0 k1
 clear hr
 have hΦs : Shut _ := hΦ
 clear hΦ
 dsimp only [wpChain, r13, q4, hd, tl, r4, d4, c4, Tryz.f4]
 go_wp2
 refine hΦs.out _ (by simp)
end Go.Mark
