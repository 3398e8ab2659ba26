import Derived.Test.YtbephahokhnccaaGreatDoorXK15toK27
set_option linter.unusedSectionVars false
set_option maxRecDepth 100000
set_option maxHeartbeats 4000000
namespace Go.Mark
open Go.RowKit Go.Proofs
variable [BaseB]
def fr (F : Frm) (g p : Int) : Frm := { F with gas := g, place := p, next := p }
def cd (kb : UInt8) : Array UInt8 := #[96, kb, 48, 96, 1, 144, 2, 128, 96, 2, 47, 0]
def Out (W0 : World) (f : Nat) (F : Frm) (et : TypeId) (ev : Value) : Option Int -> Value -> World -> Prop
 | some g, v, w' => v = .iface 174 (.agg #[.int .i64 g, .string ⟨#[]⟩]) /\ Pres [f] [41] W0 w'
 | none, v, w' => ∃ gb pl fb, v = .iface 217 (.agg #[.int .i64 gb, .iface 299 (.pointer (some ⟨fb, 0, none⟩))]) /\ w'.heap[fb]? = some (.cells #[.int .i64 F.self, .int .i64 pl, .iface et ev, .int .i64 F.bl, .int .i64 F.bg, .int .i64 F.bb] 303 (0, 0)) /\ W0.heap.size <= fb /\ Pres [f] [41] W0 w'
def left (need g : Int) : Option Int := if need <= g then some (g - need) else none
theorem out_bad {W0 W w' : World} {f : Nat} {F : Frm} {et : TypeId} {ev v : Value} {g p need G : Int} (hp : Pres [f] [41] W0 W) (h : Bad0 W (fr F g p) et ev v w') (hG : G < need) : Out W0 f F et ev (left need G) v w' := by
 obtain ⟨fb, h1, h2, h3, h4⟩ := h
 have e : left need G = none := by unfold left; rw [if_neg (by omega)]
 rw [e]
 exact ⟨g, p, fb, h1, h2, Nat.le_trans hp.size h3, hp.trans (.of_below h4 _ _)⟩
theorem st_mark {W0 W : World} {f mb : Nat} {F : Frm} {sv : SV} {et : TypeId} {ev : Value} {kb : UInt8} {n : Nat} {need G g : Int} {S : List Nat} (hS : S.length < 1000) (ht : F.text.data = cd kb) (hf : W.heap[f]? = some (.cells (frC (fr F g 2) sv) 225 (0, 0))) (hs : Stk W sv S) (hc : Cx W f mb et ev) (hp : Pres [f] [41] W0 W) (hg : 0 <= g) (hg' : g < 100000000) (hbad : g < 1 -> G < need)
  (hok : 1 <= g -> ∀ w' sv', w'.heap[f]? = some (.cells (frC (fr F (g - 1) 3) sv') 225 (0, 0)) -> Stk w' sv' S -> Cx w' f mb et ev -> Pres [f] [41] W0 w' -> Rn f (Out W0 f F et ev (left need G)) n w') :
  Rn f (Out W0 f F et ev (left need G)) (n + 1) W := by
 refine st_go (F' := { fr F g 2 with gas := g - 1, next := 3 }) (S' := S) hf hs hc 48 0 0 1 1 2 48 rfl (by decide) (by show F.text.data[2]? = _; rw [ht]; rfl) rfl shape_48 (touches_48 f) (extra_48 f) length_48 (by omega) (by decide) (by have := hs.num; have := hS; omega) (by decide) (by decide) (by decide) (by decide) hg hg' ?_ (fun h v w' hb => out_bad hp hb (hbad h)) (fun h w' sv' h1 h2 h3 h4 => hok h w' sv' h1 h2 h3 (hp.trans h4))
 intro w hw hsw hcw
 refine (do_mark f w).mono ?_
 rintro e w' ⟨rfl, rfl⟩
 exact ⟨rfl, sv, hw, hsw, Pres.refl _ _ _⟩
theorem st_push0 {W0 W : World} {f mb : Nat} {F : Frm} {sv : SV} {et : TypeId} {ev : Value} {kb : UInt8} {n : Nat} {need G g : Int}  (ht : F.text.data = cd kb) (hf : W.heap[f]? = some (.cells (frC (fr F g 0) sv) 225 (0, 0))) (hs : Stk W sv []) (hc : Cx W f mb et ev) (hp : Pres [f] [41] W0 W) (hg : 0 <= g) (hg' : g < 100000000) (hbad : g < 3 -> G < need)
  (hok : 3 <= g -> ∀ w' sv', w'.heap[f]? = some (.cells (frC (fr F (g - 3) 2) sv') 225 (0, 0)) -> Stk w' sv' [kb.toNat] -> Cx w' f mb et ev -> Pres [f] [41] W0 w' -> Rn f (Out W0 f F et ev (left need G)) n w') :
  Rn f (Out W0 f F et ev (left need G)) (n + 1) W := by
 refine st_go (F' := { fr F g 0 with gas := g - 3, next := 2 }) (S' := [kb.toNat]) hf hs hc 96 0 1 3 2 0 96 rfl (by decide) (by show F.text.data[0]? = _; rw [ht]; rfl) rfl shape_96 (touches_96 f) (extra_96 f) length_96 (by simp) (by decide) (by simp) (by decide) (by decide) (by decide) (by decide) hg hg' ?_ (fun h v w' hb => out_bad hp hb (hbad h)) (fun h w' sv' h1 h2 h3 h4 => hok h w' sv' h1 h2 h3 (hp.trans h4))
 intro w hw hsw hcw
 have hl := layOn_push (S := []) hw hsw (by simp) 0 rfl rfl (by decide) kb (by show F.text.data[1]? = _; rw [ht]; rfl)
 exact do_push (hl.mono (fun e w' ⟨sv', he, h1, h2, h3⟩ => ⟨he, sv', h1, h2, h3⟩))
theorem st_push3 {W0 W : World} {f mb : Nat} {F : Frm} {sv : SV} {et : TypeId} {ev : Value} {kb : UInt8} {n : Nat} {need G g : Int} {c : Nat} (ht : F.text.data = cd kb) (hf : W.heap[f]? = some (.cells (frC (fr F g 3) sv) 225 (0, 0))) (hs : Stk W sv [c]) (hc : Cx W f mb et ev) (hp : Pres [f] [41] W0 W) (hg : 0 <= g) (hg' : g < 100000000) (hbad : g < 3 -> G < need)
  (hok : 3 <= g -> ∀ w' sv', w'.heap[f]? = some (.cells (frC (fr F (g - 3) 5) sv') 225 (0, 0)) -> Stk w' sv' [c, 1] -> Cx w' f mb et ev -> Pres [f] [41] W0 w' -> Rn f (Out W0 f F et ev (left need G)) n w') :
  Rn f (Out W0 f F et ev (left need G)) (n + 1) W := by
 refine st_go (F' := { fr F g 3 with gas := g - 3, next := 5 }) (S' := [c, 1]) hf hs hc 96 0 1 3 2 3 96 rfl (by decide) (by show F.text.data[3]? = _; rw [ht]; rfl) rfl shape_96 (touches_96 f) (extra_96 f) length_96 (by simp) (by decide) (by simp) (by decide) (by decide) (by decide) (by decide) hg hg' ?_ (fun h v w' hb => out_bad hp hb (hbad h)) (fun h w' sv' h1 h2 h3 h4 => hok h w' sv' h1 h2 h3 (hp.trans h4))
 intro w hw hsw hcw
 have hl := layOn_push (S := [c]) hw hsw (by simp) 3 rfl rfl (by decide) 1 (by show F.text.data[4]? = _; rw [ht]; rfl)
 exact do_push (hl.mono (fun e w' ⟨sv', he, h1, h2, h3⟩ => ⟨he, sv', h1, h2, h3⟩))
theorem st_push8 {W0 W : World} {f mb : Nat} {F : Frm} {sv : SV} {et : TypeId} {ev : Value} {kb : UInt8} {n : Nat} {need G g : Int} {c : Nat} (ht : F.text.data = cd kb) (hf : W.heap[f]? = some (.cells (frC (fr F g 8) sv) 225 (0, 0))) (hs : Stk W sv [c, c]) (hc : Cx W f mb et ev) (hp : Pres [f] [41] W0 W) (hg : 0 <= g) (hg' : g < 100000000) (hbad : g < 3 -> G < need)
  (hok : 3 <= g -> ∀ w' sv', w'.heap[f]? = some (.cells (frC (fr F (g - 3) 10) sv') 225 (0, 0)) -> Stk w' sv' [c, c, 2] -> Cx w' f mb et ev -> Pres [f] [41] W0 w' -> Rn f (Out W0 f F et ev (left need G)) n w') :
  Rn f (Out W0 f F et ev (left need G)) (n + 1) W := by
 refine st_go (F' := { fr F g 8 with gas := g - 3, next := 10 }) (S' := [c, c, 2]) hf hs hc 96 0 1 3 2 8 96 rfl (by decide) (by show F.text.data[8]? = _; rw [ht]; rfl) rfl shape_96 (touches_96 f) (extra_96 f) length_96 (by simp) (by decide) (by simp) (by decide) (by decide) (by decide) (by decide) hg hg' ?_ (fun h v w' hb => out_bad hp hb (hbad h)) (fun h w' sv' h1 h2 h3 h4 => hok h w' sv' h1 h2 h3 (hp.trans h4))
 intro w hw hsw hcw
 have hl := layOn_push (S := [c, c]) hw hsw (by simp) 8 rfl rfl (by decide) 2 (by show F.text.data[9]? = _; rw [ht]; rfl)
 exact do_push (hl.mono (fun e w' ⟨sv', he, h1, h2, h3⟩ => ⟨he, sv', h1, h2, h3⟩))
theorem st_swap {W0 W : World} {f mb : Nat} {F : Frm} {sv : SV} {et : TypeId} {ev : Value} {kb : UInt8} {n : Nat} {need G g : Int} {c : Nat} (ht : F.text.data = cd kb) (hf : W.heap[f]? = some (.cells (frC (fr F g 5) sv) 225 (0, 0))) (hs : Stk W sv [c, 1]) (hc : Cx W f mb et ev) (hp : Pres [f] [41] W0 W) (hg : 0 <= g) (hg' : g < 100000000) (hbad : g < 3 -> G < need)
  (hok : 3 <= g -> ∀ w' sv', w'.heap[f]? = some (.cells (frC (fr F (g - 3) 6) sv') 225 (0, 0)) -> Stk w' sv' [1, c] -> Cx w' f mb et ev -> Pres [f] [41] W0 w' -> Rn f (Out W0 f F et ev (left need G)) n w') :
  Rn f (Out W0 f F et ev (left need G)) (n + 1) W := by
 refine st_go (F' := { fr F g 5 with gas := g - 3, next := 6 }) (S' := [1, c]) hf hs hc 144 2 2 3 1 5 144 rfl (by decide) (by show F.text.data[5]? = _; rw [ht]; rfl) rfl shape_144 (touches_144 f) (extra_144 f) length_144 (by simp) (by decide) (by simp) (by decide) (by decide) (by decide) (by decide) hg hg' ?_ (fun h v w' hb => out_bad hp hb (hbad h)) (fun h w' sv' h1 h2 h3 h4 => hok h w' sv' h1 h2 h3 (hp.trans h4))
 intro w hw hsw hcw
 have hl := layOn_swap hw hsw
 exact do_swap (hl.mono (fun e w' ⟨sv', he, h1, h2, h3⟩ => ⟨he, sv', h1, h2, h3⟩))
theorem st_sub {W0 W : World} {f mb : Nat} {F : Frm} {sv : SV} {et : TypeId} {ev : Value} {kb : UInt8} {n : Nat} {need G g : Int} {c : Nat} (hcM : c < M) (ht : F.text.data = cd kb) (hf : W.heap[f]? = some (.cells (frC (fr F g 6) sv) 225 (0, 0))) (hs : Stk W sv [1, c]) (hc : Cx W f mb et ev) (hp : Pres [f] [41] W0 W) (hg : 0 <= g) (hg' : g < 100000000) (hbad : g < 3 -> G < need)
  (hok : 3 <= g -> ∀ w' sv', w'.heap[f]? = some (.cells (frC (fr F (g - 3) 7) sv') 225 (0, 0)) -> Stk w' sv' [(c + M - 1) % M] -> Cx w' f mb et ev -> Pres [f] [41] W0 w' -> Rn f (Out W0 f F et ev (left need G)) n w') :
  Rn f (Out W0 f F et ev (left need G)) (n + 1) W := by
 refine st_go (F' := { fr F g 6 with gas := g - 3, next := 7 }) (S' := [(c + M - 1) % M]) hf hs hc 2 2 1 3 1 6 2 rfl (by decide) (by show F.text.data[6]? = _; rw [ht]; rfl) rfl shape_2 (touches_2 f) (extra_2 f) length_2 (by simp) (by decide) (by simp) (by decide) (by decide) (by decide) (by decide) hg hg' ?_ (fun h v w' hb => out_bad hp hb (hbad h)) (fun h w' sv' h1 h2 h3 h4 => hok h w' sv' h1 h2 h3 (hp.trans h4))
 intro w hw hsw hcw
 have hl := layOn_sub (T := []) hw hsw (by simp) hcM (by decide)
 exact do_sub (hl.mono (fun e w' ⟨sv', he, h1, h2, h3⟩ => ⟨he, sv', h1, h2, h3⟩))
theorem st_dup {W0 W : World} {f mb : Nat} {F : Frm} {sv : SV} {et : TypeId} {ev : Value} {kb : UInt8} {n : Nat} {need G g : Int} {c : Nat} (ht : F.text.data = cd kb) (hf : W.heap[f]? = some (.cells (frC (fr F g 7) sv) 225 (0, 0))) (hs : Stk W sv [c]) (hc : Cx W f mb et ev) (hp : Pres [f] [41] W0 W) (hg : 0 <= g) (hg' : g < 100000000) (hbad : g < 3 -> G < need)
  (hok : 3 <= g -> ∀ w' sv', w'.heap[f]? = some (.cells (frC (fr F (g - 3) 8) sv') 225 (0, 0)) -> Stk w' sv' [c, c] -> Cx w' f mb et ev -> Pres [f] [41] W0 w' -> Rn f (Out W0 f F et ev (left need G)) n w') :
  Rn f (Out W0 f F et ev (left need G)) (n + 1) W := by
 refine st_go (F' := { fr F g 7 with gas := g - 3, next := 8 }) (S' := [c, c]) hf hs hc 128 1 2 3 1 7 128 rfl (by decide) (by show F.text.data[7]? = _; rw [ht]; rfl) rfl shape_128 (touches_128 f) (extra_128 f) length_128 (by simp) (by decide) (by simp) (by decide) (by decide) (by decide) (by decide) hg hg' ?_ (fun h v w' hb => out_bad hp hb (hbad h)) (fun h w' sv' h1 h2 h3 h4 => hok h w' sv' h1 h2 h3 (hp.trans h4))
 intro w hw hsw hcw
 have hl := layOn_dup (T := []) hw hsw (by simp)
 exact do_dup (hl.mono (fun e w' ⟨sv', he, h1, h2, h3⟩ => ⟨he, sv', h1, h2, h3⟩))
theorem st_jump {W0 W : World} {f mb mcap : Nat} {F : Frm} {sv : SV} {et : TypeId} {ev : Value} {kb : UInt8} {n : Nat} {need G g : Int} {c : Nat} (hcM : c < M) (ht : F.text.data = cd kb) (hmk : F.mark = ⟨some ⟨mb, 0, none⟩, 12, mcap⟩) (hf : W.heap[f]? = some (.cells (frC (fr F g 10) sv) 225 (0, 0))) (hs : Stk W sv [c, c, 2]) (hc : Cx W f mb et ev) (hp : Pres [f] [41] W0 W) (hg : 0 <= g) (hg' : g < 100000000) (hbad : g < 10 -> G < need)
  (hok : 10 <= g -> ∀ w' sv', w'.heap[f]? = some (.cells (frC (fr F (g - 10) (if c = 0 then 11 else 2)) sv') 225 (0, 0)) -> Stk w' sv' [c] -> Cx w' f mb et ev -> Pres [f] [41] W0 w' -> Rn f (Out W0 f F et ev (left need G)) n w') :
  Rn f (Out W0 f F et ev (left need G)) (n + 1) W := by
 refine st_go (F' := { fr F g 10 with gas := g - 10, next := (if c = 0 then 11 else 2) }) (S' := [c]) hf hs hc 47 2 0 10 1 10 47 rfl (by decide) (by show F.text.data[10]? = _; rw [ht]; rfl) rfl shape_47 (touches_47 f) (extra_47 f) length_47 (by simp) (by decide) (by simp) (by decide) (by decide) (by decide) (by decide) hg hg' ?_ (fun h v w' hb => out_bad hp hb (hbad h)) (fun h w' sv' h1 h2 h3 h4 => hok h w' sv' h1 h2 h3 (hp.trans h4))
 intro w hw hsw hcw
 refine (do_jumpIf (T := [c]) (y := c) (x := 2) hw hsw hcM mb 12 mcap hmk (by decide) (by decide) hcw.lt.2 hcw.fm hcw.cm).mono ?_
 rintro e w' ⟨sv', rfl, h1, h2, h3⟩
 exact ⟨rfl, sv', h1, h2, h3⟩
end Go.Mark
set_option maxRecDepth 100000
namespace Go.Mark
open Go.RowKit Go.Proofs
variable [BaseB]
def rds : Nat -> Nat
 | 0 => 8
 | c + 1 => rds c + 7
theorem left_sub (a b g : Int) : left (a + b) g = left a (g - b) := by
 unfold left
 by_cases h : a + b <= g
 ·rw [if_pos h, if_pos (by omega)]
  congr 1
  omega
 ·rw [if_neg h, if_neg (by omega)]
theorem st_stop {W0 W : World} {f : Nat} {F : Frm} {sv : SV} {S : List Nat} {et : TypeId} {ev : Value} {kb : UInt8} {g : Int} (ht : F.text.data = cd kb) (hf : W.heap[f]? = some (.cells (frC (fr F g 11) sv) 225 (0, 0))) (hs : Stk W sv S) (hS : S.length < 1000) (hp : Pres [f] [41] W0 W) (hg : 0 <= g) (hg' : g < 100000000) :
  Rn f (Out W0 f F et ev (some g)) 1 W := by
 have hn := hs.n
 have hst := step_end hf 0 1 0 (fun w hw => by
   have := instr_at hw 11 rfl 0 (by show F.text.data[11]? = _; rw [ht]; rfl)
   exact this) (fun w hw => pay_yes hw 0 0 0 0 shape_0 (touches_0 f) (extra_0 f) (by omega) (by decide) (by rw [hn]; omega) (by decide) (by decide) hg hg' hg) length_0 (by show (0 : Int) <= 11; decide) (by show (11 : Int) < 1000000; decide) (by decide) (by decide) (fun w hw => do_stop hw)
 refine Calls.mono hst ?_
 rintro e w' ⟨rfl, hp'⟩
 refine .inl ⟨_, _, rfl, ?_, hp.trans (hp'.mono (fun _ _ h => h) (fun _ h => by cases h))⟩
 show Value.iface 174 (.agg #[.int .i64 (g - 0), .string ⟨#[]⟩]) = _
 rw [Int.sub_zero]
theorem sub_one (c : Nat) (h : c < 256) : (c + 1 + M - 1) % M = c := by
 have hM : c < M := Nat.lt_of_lt_of_le h (by decide)
 rw [show c + 1 + M - 1 = c + M by omega, Nat.add_mod_right, Nat.mod_eq_of_lt hM]
theorem round_rn {W0 W : World} {f mb mcap : Nat} {F : Frm} {sv : SV} {et : TypeId} {ev : Value} {kb : UInt8} {n c : Nat} {g : Int} (hcc : c < 256) (ht : F.text.data = cd kb) (hmk : F.mark = ⟨some ⟨mb, 0, none⟩, 12, mcap⟩) (hf : W.heap[f]? = some (.cells (frC (fr F g 2) sv) 225 (0, 0))) (hs : Stk W sv [c + 1]) (hc : Cx W f mb et ev) (hp : Pres [f] [41] W0 W) (hg : 0 <= g) (hg' : g < 100000000) {need : Int} (hneed : 26 <= need)
  (hok : 26 <= g -> ∀ w' sv', w'.heap[f]? = some (.cells (frC (fr F (g - 26) (if c = 0 then 11 else 2)) sv') 225 (0, 0)) -> Stk w' sv' [c] -> Cx w' f mb et ev -> Pres [f] [41] W0 w' -> Rn f (Out W0 f F et ev (left need g)) n w') :
  Rn f (Out W0 f F et ev (left need g)) (n + 7) W := by
 have hcM : c < M := Nat.lt_of_lt_of_le hcc (by decide)
 have hcM1 : c + 1 < M := Nat.lt_of_le_of_lt (by omega : c + 1 <= 256) (by decide)
 refine st_mark (n := n + 6) (by simp) ht hf hs hc hp hg hg' (by omega) (fun h1 w1 v1 f1 s1 c1 p1 => ?_)
 refine st_push3 (n := n + 5) ht f1 s1 c1 p1 (by omega) (by omega) (by omega) (fun h2 w2 v2 f2 s2 c2 p2 => ?_)
 refine st_swap (n := n + 4) ht f2 s2 c2 p2 (by omega) (by omega) (by omega) (fun h3 w3 v3 f3 s3 c3 p3 => ?_)
 refine st_sub (n := n + 3) hcM1 ht f3 s3 c3 p3 (by omega) (by omega) (by omega) (fun h4 w4 v4 f4 s4 c4 p4 => ?_)
 rw [sub_one c hcc] at s4
 refine st_dup (n := n + 2) ht f4 s4 c4 p4 (by omega) (by omega) (by omega) (fun h5 w5 v5 f5 s5 c5 p5 => ?_)
 refine st_push8 (n := n + 1) ht f5 s5 c5 p5 (by omega) (by omega) (by omega) (fun h6 w6 v6 f6 s6 c6 p6 => ?_)
 refine st_jump (n := n) hcM ht hmk f6 s6 c6 p6 (by omega) (by omega) (by omega) (fun h7 w7 v7 f7 s7 c7 p7 => ?_)
 refine hok (by omega) w7 v7 ?_ s7 c7 p7
 rw [show g - 26 = g - 1 - 3 - 3 - 3 - 3 - 3 - 10 by omega]
 exact f7
theorem loop_rn {W0 : World} {f mb mcap : Nat} {F : Frm} {et : TypeId} {ev : Value} {kb : UInt8} (ht : F.text.data = cd kb) (hmk : F.mark = ⟨some ⟨mb, 0, none⟩, 12, mcap⟩) : ∀ (c : Nat), c < 256 -> ∀ (W : World) (sv : SV) (g : Int), W.heap[f]? = some (.cells (frC (fr F g 2) sv) 225 (0, 0)) -> Stk W sv [c + 1] -> Cx W f mb et ev -> Pres [f] [41] W0 W -> 0 <= g -> g < 100000000 -> Rn f (Out W0 f F et ev (left (26 * (c + 1)) g)) (rds c) W
 | 0, hc, W, sv, g, hf, hs, hx, hp, h0, h1 => by
  refine round_rn (n := 1) hc ht hmk hf hs hx hp h0 h1 (by omega) (fun h w' sv' hf' hs' hx' hp' => ?_)
  have e : left (26 * (((0 : Nat) : Int) + 1)) g = some (g - 26) := by unfold left; rw [if_pos (by omega)]; rfl
  rw [e]
  exact st_stop ht hf' hs' (by simp) hp' (by omega) (by omega)
 | c + 1, hc, W, sv, g, hf, hs, hx, hp, h0, h1 => by
  refine round_rn (n := rds c) hc ht hmk hf hs hx hp h0 h1 (by omega) (fun h w' sv' hf' hs' hx' hp' => ?_)
  rw [if_neg (by omega)] at hf'
  have e : left (26 * (((c + 1 : Nat) : Int) + 1)) g = left (26 * ((c : Int) + 1)) (g - 26) := by rw [<- left_sub]; congr 1
  rw [e]
  exact loop_rn ht hmk c (by omega) w' sv' (g - 26) hf' hs' hx' hp' (by omega) (by omega)
theorem code_rn {W : World} {f mb mcap : Nat} {F : Frm} {sv : SV} {et : TypeId} {ev : Value} {kb : UInt8} {g : Int} (ht : F.text.data = cd kb) (hk : 0 < kb.toNat) (hmk : F.mark = ⟨some ⟨mb, 0, none⟩, 12, mcap⟩) (hf : W.heap[f]? = some (.cells (frC (fr F g 0) sv) 225 (0, 0))) (hs : Stk W sv []) (hc : Cx W f mb et ev) (hg : 0 <= g) (hg' : g < 100000000) :
  Rn f (Out W f F et ev (left (26 * (kb.toNat : Int) + 3) g)) (rds (kb.toNat - 1) + 1) W := by
 have hkl : kb.toNat < 256 := kb.toNat_lt
 refine st_push0 ht hf hs hc (Pres.refl _ _ _) hg hg' (by omega) (fun h w' sv' hf' hs' hc' hp' => ?_)
 rw [left_sub]
 have e : (26 * (kb.toNat : Int)) = 26 * (((kb.toNat - 1 : Nat) : Int) + 1) := by omega
 rw [e]
 exact loop_rn ht hmk (kb.toNat - 1) (by omega) w' sv' (g - 3) hf' (by rw [show kb.toNat - 1 + 1 = kb.toNat by omega]; exact hs') hc' hp' (by omega) (by omega)
end Go.Mark
set_option maxRecDepth 100000
set_option maxHeartbeats 2000000
namespace Go.Mark
open Go.RowKit Go.Proofs
variable [BaseB]
attribute [local go_sem] wd
theorem machRun {W : World} {f mc l : Nat} {lg : SV} {back depth : Int} {Φ : Value -> World -> Prop} {n : Nat} (hm : W.heap[mc]? = some (.cells (machCells l lg back depth) 165 (0, 0))) (hd : 0 <= depth) (hd' : depth < 1000)
  (h : ∀ w : World, w.heap[mc]? = some (.cells (machCells l lg back (depth + 1)) 165 (0, 0)) -> Pres [mc] [] W w -> Rn f Φ n w)
  (hΦ : ∀ v w', Φ v w' -> ∃ lg' back', w'.heap[mc]? = some (.cells (machCells l lg' back' (depth + 1)) 165 (0, 0))) :
  Calls TryQ.prog 139 #[.pointer (some ⟨mc, 0, none⟩), .pointer (some ⟨f, 0, none⟩)] W fun e w' => ∃ t v w2 lg' back', e = .returned (.iface t v) /\ Φ (.iface t v) w2 /\ w2.heap[mc]? = some (.cells (machCells l lg' back' (depth + 1)) 165 (0, 0)) /\ w'.heap[mc]? = some (.cells (machCells l lg' back' depth) 165 (0, 0)) /\ Pres [mc] [] w2 w' := by
 have i1 : IntKind.i64.wrap (depth + 1) = depth + 1 := IntWalk.i64_in _ ⟨by omega, by omega⟩
 have i2 : IntKind.i64.wrap depth = depth := IntWalk.i64_in _ ⟨by omega, by omega⟩
 have c3 := blk_cell hm 3
 have f3 := blk_fz hm 3
 simp only [machCells, List.getElem?_toArray, List.getElem?_cons_zero, List.getElem?_cons_succ] at c3
 have hm1 : (W.setCell ⟨mc, 3, none⟩ (.int .i64 (depth + 1))).heap[mc]? = some (.cells (machCells l lg back (depth + 1)) 165 (0, 0)) := blk_set (i := 3) hm
 have hr := run180 n _ (h _ hm1 (Pres.setCell W mc 3 _))
 clear h
 go_enter TryQ.func139, Tryz.ntmps139
 go_wp2_with fail
 refine hr.mono ?_
 rintro e w2 ⟨t, v, rfl, hv⟩
 obtain ⟨lg', back', hm2⟩ := hΦ _ _ hv
 clear c3 f3 hr
 have c3 := blk_cell hm2 3
 have f3 := blk_fz hm2 3
 simp only [machCells, List.getElem?_toArray, List.getElem?_cons_zero, List.getElem?_cons_succ] at c3
 have i3 : depth + 1 - 1 = depth := by omega
 go_wp2
 go_ret
 exact ⟨t, v, w2, lg', back', rfl, hv, hm2, blk_set (i := 3) hm2, Pres.setCell w2 mc 3 _⟩
end Go.Mark
set_option maxRecDepth 100000
set_option maxHeartbeats 4000000
namespace Go.Mark
open Go.RowKit Go.Proofs
variable [BaseB]
attribute [local go_sem] wd
def ordC (src dst nonce : Int) (val : Nat) (gas price miner : Int) : Array Value := #[.int .i64 src, .int .i64 dst, .int .i64 nonce, .int .u64 (lim val 0), .int .u64 (lim val 1), .int .u64 (lim val 2), .int .u64 (lim val 3), .int .i64 gas, .int .i64 price, .string ⟨#[]⟩, .int .i64 miner]
theorem coins50 (g p : Nat) (hg : g < 100000000) (hp : p < 100000000) (W : World) :
  Calls TryQ.prog 50 #[.int .i64 (g : Int), .int .i64 (p : Int)] W fun e w' => e = .returned (wd (g * p)) /\ Below W.heap.size W w' := by
 have hgp : g * p < 10000000000000000 := Nat.lt_of_lt_of_le (Nat.mul_lt_mul'' hg hp) (by decide)
 rw [wd_small (g * p) (by omega)]
 have i1 : IntKind.u64.wrap (g : Int) = (g : Int) := IntWalk.u64_in _ (by omega)
 have i2 : IntKind.u64.wrap (p : Int) = (p : Int) := IntWalk.u64_in _ (by omega)
 have i3 : IntKind.u64.wrap ((g : Int) * (p : Int)) = ((g * p : Nat) : Int) := by rw [<- Int.natCast_mul]; exact IntWalk.u64_in _ (by omega)
 clear hg hp hgp
 go_enter TryQ.func50, Tryz.ntmps50
 go_wp2
 simp [bodyPost, results, Tryz.results50, go_sem]
 exact ba
theorem costAtOnce84 (src dst nonce : Int) (val : Nat) (gas price miner : Int) (hd : dst ≠ 0) (W : World) :
  Calls TryQ.prog 84 #[.agg (ordC src dst nonce val gas price miner)] W fun e w' => e = .returned (.int .i64 21000) /\ Below W.heap.size W w' := by
 unfold ordC
 go_enter TryQ.func84, Tryz.ntmps84
 go_wp2_with fail
 refine wp_loop_rounds 1 ?_
 rw [rounds_succ]
 go_wp2
 go_ret
 exact ⟨rfl, ba⟩
theorem allowed81 (src dst nonce : Int) (val : Nat) (gas price miner : Int) (h1 : 0 <= gas) (h2 : gas <= 1000000) (h3 : 0 <= price) (h4 : price <= 1000000) (h5 : 0 <= dst) (h6 : dst <= 4294967295) (h7 : 1 <= miner) (h8 : miner <= 4294967295) (h9 : 0 <= nonce) (W : World) :
  Calls TryQ.prog 81 #[.agg (ordC src dst nonce val gas price miner)] W fun e w' => e = .returned (.bool true) /\ Below W.heap.size W w' := by
 unfold ordC
 go_enter TryQ.func81, Tryz.ntmps81
 go_wp2
 go_ret
 exact ⟨rfl, ba⟩
theorem wellLeft366 (g : Int) (s : ByteArray) (W : World) :
  Calls TryQ.prog 366 #[.agg #[.int .i64 g, .string s]] W fun e w' => e = .returned (.int .i64 g) /\ Below W.heap.size W w' := by
 go_enter TryQ.func366, Tryz.ntmps366
 go_wp2
 go_ret
 exact ⟨rfl, ba⟩
end Go.Mark
set_option maxRecDepth 100000
set_option maxHeartbeats 4000000
namespace Go.Mark
open Go.RowKit Go.Proofs
variable [BaseB]
attribute [local go_sem] wd
theorem payable85 (src dst nonce : Int) (val : Nat) (g p : Nat) (miner : Int) (bal : Nat) (hg : g < 100000000) (hp : p < 100000000) (hv : val < M) (hb : bal < M) (hle : g * p + val <= bal) (W : World) :
  Calls TryQ.prog 85 #[.agg (ordC src dst nonce val g p miner), wd bal] W fun e w' => e = .returned (.bool true) /\ Below W.heap.size W w' := by
 have hgM : g * p < M := by omega
 have hb1 : Below W.heap.size W ((W.alloc (.cells (ordC src dst nonce val g p miner) 43)).alloc (.cells #[.int .u64 (lim (bal) 0), .int .u64 (lim (bal) 1), .int .u64 (lim (bal) 2), .int .u64 (lim (bal) 3)] 41)) := ba.alloc (by simp) _
 have ho := blk_alloc (p := .cells #[.int .u64 (lim (bal) 0), .int .u64 (lim (bal) 1), .int .u64 (lim (bal) 2), .int .u64 (lim (bal) 3)] 41) (blk_new W (.cells (ordC src dst nonce val g p miner) 43))
 have hn := blk_new (W.alloc (.cells (ordC src dst nonce val g p miner) 43)) (.cells #[.int .u64 (lim (bal) 0), .int .u64 (lim (bal) 1), .int .u64 (lim (bal) 2), .int .u64 (lim (bal) 3)] 41)
 rw [show (W.alloc (.cells (ordC src dst nonce val g p miner) 43)).heap.size = W.heap.size + 1 by simp] at hn
 go_enter TryQ.func85, Tryz.ntmps85
 unfold ordC
 go_wp2_with fail
 change Code.wp _ _ _ _ ((W.alloc (.cells (ordC src dst nonce val g p miner) 43)).alloc (.cells #[.int .u64 (lim (bal) 0), .int .u64 (lim (bal) 1), .int .u64 (lim (bal) 2), .int .u64 (lim (bal) 3)] 41))
 generalize hw1 : (W.alloc (.cells (ordC src dst nonce val g p miner) 43)).alloc (.cells #[.int .u64 (lim (bal) 0), .int .u64 (lim (bal) 1), .int .u64 (lim (bal) 2), .int .u64 (lim (bal) 3)] 41) = w1 at hb1 ho hn ⊢
 refine wp_meet2 (fun zb _ V => ∃ v, V.heap[zb]? = some (.cells #[.int .u64 (lim ((g * p + val) % M) 0), .int .u64 (lim ((g * p + val) % M) 1), .int .u64 (lim ((g * p + val) % M) 2), .int .u64 (lim ((g * p + val) % M) 3)] 41 (0, 0)) /\ Pres [zb] [] v V /\ Below w1.heap.size w1 v /\ w1.heap.size <= zb) ?_
 apply Exists.intro
 apply And.intro
 ·skip
  refine wp_region_held_drew (S := fun V => V.heap[W.heap.size]? = some (.cells (ordC src dst nonce val g p miner) 43 (0, 0))) (by kernel_rfl) ho (fun hH => ?_)
  refine td (i := 0) (d := some 8) (v := .pointer (some ⟨W.heap.size, 7, none⟩)) rfl rfl (fun V hW => ?_) hH ?_
  ·clear hW hH
   go_simp
  refine td (i := 1) (d := some 9) (v := .int .i64 (g : Int)) rfl rfl (fun V hW => ?_) hH ?_
  ·have k0 := blk_cell hW 7
   simp only [ordC, List.getElem?_toArray, List.getElem?_cons_zero, List.getElem?_cons_succ] at k0
   clear hW hH
   go_simp
  refine td (i := 2) (d := some 10) (v := .pointer (some ⟨W.heap.size, 8, none⟩)) rfl rfl (fun V hW => ?_) hH ?_
  ·clear hW hH
   go_simp
  refine td (i := 3) (d := some 11) (v := .int .i64 (p : Int)) rfl rfl (fun V hW => ?_) hH ?_
  ·have k0 := blk_cell hW 8
   simp only [ordC, List.getElem?_toArray, List.getElem?_cons_zero, List.getElem?_cons_succ] at k0
   clear hW hH
   go_simp
  refine td (i := 5) (d := some 13) (v := .pointer (some ⟨W.heap.size, 3, none⟩)) rfl rfl (fun V hW => ?_) hH ?_
  ·clear hW hH
   go_simp
  refine td (i := 6) (d := some 14) (v := wd val) rfl rfl (fun V hW => ?_) hH ?_
  ·have k0 := blk_cell hW 3
   have k1 := blk_cell hW 4
   have k2 := blk_cell hW 5
   have k3 := blk_cell hW 6
   simp only [ordC, List.getElem?_toArray, List.getElem?_cons_zero, List.getElem?_cons_succ] at k0 k1 k2 k3
   clear hW hH
   go_simp
  have hbwv0 : Below w1.heap.size w1 w1.drew := (Below.refl _ _).drew
  generalize w1.drew = v0 at hbwv0 hH ⊢
  refine wpAnyH_ready (rs := [4, 11]) (by kernel_rfl) (by simp) ?_
  refine AllReadyH.cons rfl (fun K hK => ?_) (AllReadyH.cons rfl (fun K hK => ?_) (AllReadyH.nil))
  ·skip
   go_simp
   refine (coins50 g p hg hp _).mono ?_
   rintro e v1 ⟨rfl, hbn⟩
   go_wp2_with fail
   refine hK.out _ _ ((hbn.block _ (blk_lt hH)).trans hH) (fun hH => ?_)
   clear hK K
   have hbwv1 := hbwv0.trans (hbn.mono hbwv0.size)
   clear hbn
   refine wpAnyH_ready (rs := [7, 11]) (by kernel_rfl) (by simp) ?_
   refine AllReadyH.cons rfl (fun K hK => ?_) (AllReadyH.cons rfl (fun K hK => ?_) (AllReadyH.nil))
   ·skip
    go_simp
    refine (sum (g * p) val hgM hv _).mono ?_
    rintro e v2 ⟨rfl, hbn⟩
    go_wp2_with fail
    refine hK.out _ _ ((hbn.block _ (blk_lt hH)).trans hH) (fun hH => ?_)
    clear hK K
    have hbwv2 := hbwv1.trans (hbn.mono hbwv1.size)
    clear hbn
    refine td (i := 8) (d := some 7) (v := .tuple #[wd ((g * p + val) % M), .int .u64 (((g * p + val) / M : Nat) : Int)]) rfl rfl (fun V hW => ?_) hH ?_
    ·clear hW hH
     go_simp
    refine td (i := 9) (d := some 16) (v := wd ((g * p + val) % M)) rfl rfl (fun V hW => ?_) hH ?_
    ·clear hW hH
     go_simp
    refine td (i := 10) (d := some 17) (v := .int .u64 (((g * p + val) / M : Nat) : Int)) rfl rfl (fun V hW => ?_) hH ?_
    ·clear hW hH
     go_simp
    refine r1 (i := 11) rfl (fun K hK => ?_)
    ·skip
     go_simp
     obtain ⟨zb, hzb0⟩ : ∃ zb, v2.heap.size = zb := ⟨_, rfl⟩
     have hzv3 := blk_new v2 (.cells #[.int .u64 0, .int .u64 0, .int .u64 0, .int .u64 0] 41)
     have hbn : Below v2.heap.size v2 (v2.alloc (.cells #[.int .u64 0, .int .u64 0, .int .u64 0, .int .u64 0] 41)) := ba
     have hzb : w1.heap.size <= zb := by have := hbwv2.size; omega
     rw [hzb0] at hzv3 ⊢
     have hbwv3 := hbwv2.trans (hbn.mono hbwv2.size)
     have hol : W.heap.size < w1.heap.size := blk_lt ho
     refine hK.out _ (v2.alloc (.cells #[.int .u64 0, .int .u64 0, .int .u64 0, .int .u64 0] 41)) ((hbn.block _ (blk_lt hH)).trans hH) (fun hH => ?_)
     clear hK K hbn
     generalize v2.alloc (.cells #[.int .u64 0, .int .u64 0, .int .u64 0, .int .u64 0] 41) = v3 at hzv3 hbwv3 hH ⊢
     have c0 := blk_cell hzv3 0
     have c1 := blk_cell hzv3 1
     have c2 := blk_cell hzv3 2
     have c3 := blk_cell hzv3 3
     simp only [List.getElem?_toArray, List.getElem?_cons_zero, List.getElem?_cons_succ] at c0 c1 c2 c3
     have d0 := blk_fz hzv3 0
     have d1 := blk_fz hzv3 1
     have d2 := blk_fz hzv3 2
     have d3 := blk_fz hzv3 3
     refine r1 (i := 12) rfl (fun K hK => ?_)
     go_simp
     refine hK.out _ _ (blk_set_other (blk_set_other (blk_set_other (blk_set_other hH (by omega)) (by omega)) (by omega)) (by omega)) (fun hH => ?_)
     clear hK K
     refine td (i := 13) (d := some 6) (v := .int .u64 (((g * p + val) / M : Nat) : Int)) rfl rfl (fun V hW => ?_) hH ?_
     ·clear hW hH
      go_simp
     refine wpAnyH_done (by kernel_rfl) ?_ _
     obtain ⟨zz, hzz⟩ : ∃ zz : Nat, zz = zz := ⟨0, rfl⟩
     exact ⟨rfl, zb, zz, rfl, _, blk_set4 _ _ _ _ hzv3, (pres_set4 v3 zb _ _ _ _), hbwv3, hzb⟩
   ·skip
    go_simp
    obtain ⟨zb, hzb0⟩ : ∃ zb, v1.heap.size = zb := ⟨_, rfl⟩
    have hzv4 := blk_new v1 (.cells #[.int .u64 0, .int .u64 0, .int .u64 0, .int .u64 0] 41)
    have hbn : Below v1.heap.size v1 (v1.alloc (.cells #[.int .u64 0, .int .u64 0, .int .u64 0, .int .u64 0] 41)) := ba
    have hzb : w1.heap.size <= zb := by have := hbwv1.size; omega
    rw [hzb0] at hzv4 ⊢
    have hbwv4 := hbwv1.trans (hbn.mono hbwv1.size)
    have hol : W.heap.size < w1.heap.size := blk_lt ho
    refine hK.out _ (v1.alloc (.cells #[.int .u64 0, .int .u64 0, .int .u64 0, .int .u64 0] 41)) ((hbn.block _ (blk_lt hH)).trans hH) (fun hH => ?_)
    clear hK K hbn
    generalize v1.alloc (.cells #[.int .u64 0, .int .u64 0, .int .u64 0, .int .u64 0] 41) = v4 at hzv4 hbwv4 hH ⊢
    refine r1 (i := 7) rfl (fun K hK => ?_)
    ·skip
     go_simp
     refine (sum (g * p) val hgM hv _).mono ?_
     rintro e v5 ⟨rfl, hbn⟩
     go_wp2_with fail
     refine hK.out _ _ ((hbn.block _ (blk_lt hH)).trans hH) (fun hH => ?_)
     clear hK K
     have hbwv5 := hbwv4.trans (hbn.mono hbwv4.size)
     have hzv5 := (hbn.block _ (blk_lt hzv4)).trans hzv4
     clear hbn
     refine td (i := 8) (d := some 7) (v := .tuple #[wd ((g * p + val) % M), .int .u64 (((g * p + val) / M : Nat) : Int)]) rfl rfl (fun V hW => ?_) hH ?_
     ·clear hW hH
      go_simp
     refine td (i := 9) (d := some 16) (v := wd ((g * p + val) % M)) rfl rfl (fun V hW => ?_) hH ?_
     ·clear hW hH
      go_simp
     refine td (i := 10) (d := some 17) (v := .int .u64 (((g * p + val) / M : Nat) : Int)) rfl rfl (fun V hW => ?_) hH ?_
     ·clear hW hH
      go_simp
     have c0 := blk_cell hzv5 0
     have c1 := blk_cell hzv5 1
     have c2 := blk_cell hzv5 2
     have c3 := blk_cell hzv5 3
     simp only [List.getElem?_toArray, List.getElem?_cons_zero, List.getElem?_cons_succ] at c0 c1 c2 c3
     have d0 := blk_fz hzv5 0
     have d1 := blk_fz hzv5 1
     have d2 := blk_fz hzv5 2
     have d3 := blk_fz hzv5 3
     refine r1 (i := 12) rfl (fun K hK => ?_)
     go_simp
     refine hK.out _ _ (blk_set_other (blk_set_other (blk_set_other (blk_set_other hH (by omega)) (by omega)) (by omega)) (by omega)) (fun hH => ?_)
     clear hK K
     refine td (i := 13) (d := some 6) (v := .int .u64 (((g * p + val) / M : Nat) : Int)) rfl rfl (fun V hW => ?_) hH ?_
     ·clear hW hH
      go_simp
     refine wpAnyH_done (by kernel_rfl) ?_ _
     obtain ⟨zz, hzz⟩ : ∃ zz : Nat, zz = zz := ⟨0, rfl⟩
     exact ⟨rfl, zb, zz, rfl, _, blk_set4 _ _ _ _ hzv5, (pres_set4 v5 zb _ _ _ _), hbwv5, hzb⟩
  ·skip
   go_simp
   obtain ⟨zb, hzb0⟩ : ∃ zb, v0.heap.size = zb := ⟨_, rfl⟩
   have hzv6 := blk_new v0 (.cells #[.int .u64 0, .int .u64 0, .int .u64 0, .int .u64 0] 41)
   have hbn : Below v0.heap.size v0 (v0.alloc (.cells #[.int .u64 0, .int .u64 0, .int .u64 0, .int .u64 0] 41)) := ba
   have hzb : w1.heap.size <= zb := by have := hbwv0.size; omega
   rw [hzb0] at hzv6 ⊢
   have hbwv6 := hbwv0.trans (hbn.mono hbwv0.size)
   have hol : W.heap.size < w1.heap.size := blk_lt ho
   refine hK.out _ (v0.alloc (.cells #[.int .u64 0, .int .u64 0, .int .u64 0, .int .u64 0] 41)) ((hbn.block _ (blk_lt hH)).trans hH) (fun hH => ?_)
   clear hK K hbn
   generalize v0.alloc (.cells #[.int .u64 0, .int .u64 0, .int .u64 0, .int .u64 0] 41) = v6 at hzv6 hbwv6 hH ⊢
   refine r1 (i := 4) rfl (fun K hK => ?_)
   ·skip
    go_simp
    refine (coins50 g p hg hp _).mono ?_
    rintro e v7 ⟨rfl, hbn⟩
    go_wp2_with fail
    refine hK.out _ _ ((hbn.block _ (blk_lt hH)).trans hH) (fun hH => ?_)
    clear hK K
    have hbwv7 := hbwv6.trans (hbn.mono hbwv6.size)
    have hzv7 := (hbn.block _ (blk_lt hzv6)).trans hzv6
    clear hbn
    refine r1 (i := 7) rfl (fun K hK => ?_)
    ·skip
     go_simp
     refine (sum (g * p) val hgM hv _).mono ?_
     rintro e v8 ⟨rfl, hbn⟩
     go_wp2_with fail
     refine hK.out _ _ ((hbn.block _ (blk_lt hH)).trans hH) (fun hH => ?_)
     clear hK K
     have hbwv8 := hbwv7.trans (hbn.mono hbwv7.size)
     have hzv8 := (hbn.block _ (blk_lt hzv7)).trans hzv7
     clear hbn
     refine td (i := 8) (d := some 7) (v := .tuple #[wd ((g * p + val) % M), .int .u64 (((g * p + val) / M : Nat) : Int)]) rfl rfl (fun V hW => ?_) hH ?_
     ·clear hW hH
      go_simp
     refine td (i := 9) (d := some 16) (v := wd ((g * p + val) % M)) rfl rfl (fun V hW => ?_) hH ?_
     ·clear hW hH
      go_simp
     refine td (i := 10) (d := some 17) (v := .int .u64 (((g * p + val) / M : Nat) : Int)) rfl rfl (fun V hW => ?_) hH ?_
     ·clear hW hH
      go_simp
     have c0 := blk_cell hzv8 0
     have c1 := blk_cell hzv8 1
     have c2 := blk_cell hzv8 2
     have c3 := blk_cell hzv8 3
     simp only [List.getElem?_toArray, List.getElem?_cons_zero, List.getElem?_cons_succ] at c0 c1 c2 c3
     have d0 := blk_fz hzv8 0
     have d1 := blk_fz hzv8 1
     have d2 := blk_fz hzv8 2
     have d3 := blk_fz hzv8 3
     refine r1 (i := 12) rfl (fun K hK => ?_)
     go_simp
     refine hK.out _ _ (blk_set_other (blk_set_other (blk_set_other (blk_set_other hH (by omega)) (by omega)) (by omega)) (by omega)) (fun hH => ?_)
     clear hK K
     refine td (i := 13) (d := some 6) (v := .int .u64 (((g * p + val) / M : Nat) : Int)) rfl rfl (fun V hW => ?_) hH ?_
     ·clear hW hH
      go_simp
     refine wpAnyH_done (by kernel_rfl) ?_ _
     obtain ⟨zz, hzz⟩ : ∃ zz : Nat, zz = zz := ⟨0, rfl⟩
     exact ⟨rfl, zb, zz, rfl, _, blk_set4 _ _ _ _ hzv8, (pres_set4 v8 zb _ _ _ _), hbwv8, hzb⟩
 ·rintro zb z V ⟨v, hz, hpv, hbv, hzb⟩
  have hmod : (g * p + val) % M = g * p + val := Nat.mod_eq_of_lt (by omega)
  have hdiv : (g * p + val) / M = 0 := Nat.div_eq_of_lt (by omega)
  rw [hmod] at hz
  rw [hmod, hdiv]
  have hnl := blk_lt hn
  have hnv := (hbv.block _ hnl).trans hn
  have hnV := hpv.obj hnv (by show (41 : Nat) ∉ []; simp) (by simp; omega)
  have hbV : Below W.heap.size W V := ⟨hpv.os.trans (hbv.os.trans hb1.os), hpv.tape.trans (hbv.tape.trans hb1.tape), hpv.output.trans (hbv.output.trans hb1.output), Nat.le_trans hb1.size (Nat.le_trans hbv.size hpv.size), fun k hk => by
   have h1 := hb1.block k hk
   have hk1 : k < w1.heap.size := Nat.lt_of_lt_of_le hk hb1.size
   rcases hpv.block k (Nat.lt_of_lt_of_le hk1 hbv.size) (by simp; omega) with e | ⟨_, _, _, h0, _⟩
   ·exact e.trans ((hbv.block k hk1).trans h1)
   ·cases h0⟩
  have c0 := blk_cell hnV 0
  have c1 := blk_cell hnV 1
  have c2 := blk_cell hnV 2
  have c3 := blk_cell hnV 3
  have e0 := blk_cell hz 0
  have e1 := blk_cell hz 1
  have e2 := blk_cell hz 2
  have e3 := blk_cell hz 3
  simp only [List.getElem?_toArray, List.getElem?_cons_zero, List.getElem?_cons_succ] at c0 c1 c2 c3 e0 e1 e2 e3
  have hls := less bal (g * p + val) hb (by omega) V
  rw [decide_eq_false (by omega)] at hls
  obtain ⟨al, hal⟩ : ∃ al, g * p + val = al := ⟨_, rfl⟩
  rw [hal] at hls e0 e1 e2 e3 ⊢
  go_wp2_with fail
  refine hls.mono ?_
  rintro e V2 ⟨rfl, hb2⟩
  go_wp2
  go_ret
  exact ⟨rfl, hbV.trans (hb2.mono hbV.size)⟩
end Go.Mark
