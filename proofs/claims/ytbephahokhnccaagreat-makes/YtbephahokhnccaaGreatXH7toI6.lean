/-
  made beside leavers (4): from its entry to its return.
-/
import Derived.Test.YtbephahokhnccaaGreatXI5toH6
import Derived.Test.YtbephahokhnccaaGreatXG8toE8
import Derived.Test.YtbephahokhnccaaGreatF26
set_option linter.unusedSectionVars false
namespace Go.Mark
open Go.Conc Go.Walk Go.Phase Go.RowKit Go.Conc.Lib Go.ConcR.Gen Go.ConcN.Gen Go.Lift Go.Proofs
open Go.ConcN (WgLive Has RW DWs AtR0 PayAt)
open Go.ConcR (KK WgAt stA smA rd wr mk Payload)
/-- what made answers -/
def Res4 (ds : List (AccD × SV)) (v' : World) (val : Value) : Prop :=
  (Sound (ds.map (·.1)) ∧ ∃ pp pw pl L pb vA ys, val = .tuple #[.pointer (some ⟨pp, 0, none⟩), .bool true] ∧ v'.cell? ⟨pp, 0, none⟩ = some (.pointer (some ⟨pw, 0, none⟩)) ∧ v'.cell? ⟨pp, 1, none⟩ = some (.pointer (some ⟨pb, 0, none⟩)) ∧
    v'.cell? ⟨pw, 0, none⟩ = some (.pointer (some ⟨pl, 0, none⟩)) ∧ LedgerAt v' pl L ∧ L.map (·.1) = ds.map (fun p => kp p.1) ∧ v'.cell? ⟨pb, 0, none⟩ = some (.slice (SV.a vA) ys.length (SV.c vA)) ∧ InR v' (SV.a vA) ys ∧ ys.map (·.1) = ds.map (fun p => kp p.1)) ∨
  (¬ Sound (ds.map (·.1)) ∧ val = .tuple #[.pointer none, .bool true])
/-- a lone stretch that writes over what made has laid -/
theorem on_kept {B E : Nat} {D : Nat → Prop} {ds es : List (AccD × SV)} {vR : SV} {w w' u v' : World} (hL : Lay E u ds es 8 vR []) (hBE : B ≤ E) (hk : Dk B D w) (hu : Rel (veil D) w u) (hr : Rel (veil D) w' v') (hs : Stays w w' v') (hkp : Kept (Xm E es) u v') : On0 B D w w' v' := by
  have hxl := xm_lt hL
  have hE : E < u.heap.size := (hL.own.lt _ rfl).2
  refine on0_lone hk hu hr hs (by rw [← hu.size]; omega) (fun b hb => hkp.block b (by omega) (fun x => by have := (hxl b x).1; omega)) (fun b e he => ?_) hkp.size ⟨hkp.os, hkp.output⟩
  refine (hkp.block b (Array.getElem?_eq_some_iff.1 he).1 (fun x => ?_)).trans he
  obtain ⟨y, hy⟩ := (xm_row hL b x).cell
  simp [World.cell?, he] at hy
theorem tw_kept {E : Nat} {ds es : List (AccD × SV)} {vR : SV} {v u v' : World} (hL : Lay E u ds es 8 vR []) (ht : Tw v u) (hv : v.heap.size ≤ E) (hkp : Kept (Xm E es) u v') : Tw v v' :=
  ⟨Nat.le_trans ht.size hkp.size, fun b o h1 h2 => by
    have hb := (Array.getElem?_eq_some_iff.1 h1).1
    have hE : E < u.heap.size := (hL.own.lt _ rfl).2
    exact (hkp.block b (by omega) (fun x => by have := (xm_lt hL b x).1; omega)).trans (ht.obj b o h1 h2)⟩
set_option maxRecDepth 100000 in
set_option maxHeartbeats 2000000 in
theorem made_runs {B : Nat} {Shun : Loc → Prop} {D : Nat → Prop} {ds : List (AccD × SV)} {a : Option Addr} {cap o : Nat} {b₀ : Frame} {a₀ : Act} {ops₀ : Array Oper} {i₀ : Nat} {rest₀ : List Nat} {k₀ : List Item} {cs : List Frame} {w v : World} {m : Machine} {t : Trace}
    (hB : B ≤ w.heap.size) (hrel : Rel (veil D) w v) (hdk : Dk B D w) (hhid : Hides (veil D) Shun) (hI : InR v a ds) (ho : o + 64 < 2147483647)
    (hb₀ : b₀.kind = .normal) (ha₀ : a₀.defers = []) (ho₀ : okOps Tryz.prog ops₀ = true) (hk₀ : ∀ x ∈ k₀, okItem Tryz.prog x = true)
    (hst : Stand Tryz.prog Shun w.heap.size (o + 1) (G ((base 4).at ⟨#[.slice a ds.length cap] ++ Array.replicate 145 undef, []⟩ [.code (Tryz.f4.body.getD .skip)]) (b₀.at a₀ (.inRegion ops₀ (i₀ :: rest₀) :: k₀) :: cs)) w m t) :
    Runs Tryz.prog m t fun m' t' => ∃ w' v' Shun' D' o' val, OnTo B Shun' D' w w' v v' ∧ Res4 ds v' val ∧ o' ≤ o + 64 ∧
      Stand Tryz.prog Shun' w'.heap.size (o' + 1) (G (after b₀ a₀ ops₀ i₀ rest₀ k₀ val) cs) w' m' t' := by
  have hlit : (#[.slice a ds.length cap] ++ Array.replicate 145 undef : Array Value) = #[.slice a ds.length cap, undef, undef, undef, undef, undef, undef, undef, undef, undef, undef, undef, undef, undef, undef, undef, undef, undef, undef, undef, undef, undef, undef, undef, undef, undef, undef, undef, undef, undef, undef, undef, undef, undef, undef, undef, undef, undef, undef, undef, undef, undef, undef, undef, undef, undef, undef, undef, undef, undef, undef, undef, undef, undef, undef, undef, undef, undef, undef, undef, undef, undef, undef, undef, undef, undef, undef, undef, undef, undef, undef, undef, undef, undef, undef, undef, undef, undef, undef, undef, undef, undef, undef, undef, undef, undef, undef, undef, undef, undef, undef, undef, undef, undef, undef, undef, undef, undef, undef, undef, undef, undef, undef, undef, undef, undef, undef, undef, undef, undef, undef, undef, undef, undef, undef, undef, undef, undef, undef, undef, undef, undef, undef, undef, undef, undef, undef, undef, undef, undef, undef, undef, undef, undef, undef, undef, undef, undef, undef, undef, undef, undef, undef, undef, undef, undef] := by
    rw [← List.toArray_replicate, show List.replicate 145 undef = [undef, undef, undef, undef, undef, undef, undef, undef, undef, undef, undef, undef, undef, undef, undef, undef, undef, undef, undef, undef, undef, undef, undef, undef, undef, undef, undef, undef, undef, undef, undef, undef, undef, undef, undef, undef, undef, undef, undef, undef, undef, undef, undef, undef, undef, undef, undef, undef, undef, undef, undef, undef, undef, undef, undef, undef, undef, undef, undef, undef, undef, undef, undef, undef, undef, undef, undef, undef, undef, undef, undef, undef, undef, undef, undef, undef, undef, undef, undef, undef, undef, undef, undef, undef, undef, undef, undef, undef, undef, undef, undef, undef, undef, undef, undef, undef, undef, undef, undef, undef, undef, undef, undef, undef, undef, undef, undef, undef, undef, undef, undef, undef, undef, undef, undef, undef, undef, undef, undef, undef, undef, undef, undef, undef, undef, undef, undef, undef, undef, undef, undef, undef, undef, undef, undef, undef, undef, undef, undef, undef, undef, undef, undef, undef, undef] from rfl, List.append_toArray, List.cons_append, List.nil_append]
  have hbody : Tryz.f4.body.getD .skip = chain p4 q4 := by rw [body4]; rfl
  rw [hlit, hbody] at hst
  have hE : v.heap.size = w.heap.size := hrel.size
  have hwill := lift_chain (D := D) (l := p4) (c := q4) (b := base 4) (k := []) (cw := b₀.at a₀ (.inRegion ops₀ (i₀ :: rest₀) :: k₀) :: cs) (w := w) (a := ⟨#[.slice a ds.length cap, undef, undef, undef, undef, undef, undef, undef, undef, undef, undef, undef, undef, undef, undef, undef, undef, undef, undef, undef, undef, undef, undef, undef, undef, undef, undef, undef, undef, undef, undef, undef, undef, undef, undef, undef, undef, undef, undef, undef, undef, undef, undef, undef, undef, undef, undef, undef, undef, undef, undef, undef, undef, undef, undef, undef, undef, undef, undef, undef, undef, undef, undef, undef, undef, undef, undef, undef, undef, undef, undef, undef, undef, undef, undef, undef, undef, undef, undef, undef, undef, undef, undef, undef, undef, undef, undef, undef, undef, undef, undef, undef, undef, undef, undef, undef, undef, undef, undef, undef, undef, undef, undef, undef, undef, undef, undef, undef, undef, undef, undef, undef, undef, undef, undef, undef, undef, undef, undef, undef, undef, undef, undef, undef, undef, undef, undef, undef, undef, undef, undef, undef, undef, undef, undef, undef, undef, undef, undef, undef, undef, undef, undef, undef, undef, undef], []⟩)
    (Φ := fun a' v' => ∃ u T es vR, Rel (veil D) w u ∧ a' = ⟨T, []⟩ ∧ T.size = 146 ∧ T[0]? = some (.slice a ds.length cap) ∧ T[4]? = some (.int .i64 (ds.length : Int)) ∧ T[5]? = some (.slice (some ⟨u.heap.size, 0, none⟩) (ds.length + 8) (ds.length + 8)) ∧ T[6]? = some (.slice (SV.a vR) (SV.n vR) (SV.c vR)) ∧ es.length = ds.length ∧ Pre u v' ds es 8 vR [])
    rfl rfl okch4 okq4 (fun x hx => by cases hx) ⟨v, hrel⟩
    (fun u hu => pre4 ds a cap u (hI.at fun p x hp => (tw_rel hdk hrel hu).cell hp) _ (fun T W es vR h h0 h4 h5 h6 he hP => ⟨rfl, u, T, es, vR, hu, rfl, h, h0, h4, h5, h6, he, hP⟩))
  refine (runs_will hhid hwill hst).then fun m1 t1 h1 => ?_
  obtain ⟨g1, w1, ⟨a1, v1, rfl, hr1, hs1, _, u1, T, es, vR, hu1, rfl, hsz, h0, h4, h5, h6, hel, hP⟩, hst1⟩ := h1
  have hon1 := onto_lone hdk hrel hhid hB hu1 hr1 hs1 hP.below
  have hL1 : Lay w.heap.size v1 ds es 8 vR [] := by have := hP.toLay; rwa [hu1.size] at this
  rw [hu1.size] at h5
  obtain ⟨tt, hT, ht⟩ := lit146 T hsz
  rw [hT, ht 0 _ h0, ht 4 _ h4, ht 5 _ h5, ht 6 _ h6] at hst1
  clear hT ht h0 h4 h5 h6 hsz hwill
  refine (runs_sil (mid4a (h0 := w1.heap) (t := tt)) rfl hst1).then fun m2 t2 h2 => ?_
  obtain ⟨g2, w1a, ⟨rfl, hh1a⟩, ho1a, hst1a⟩ := h2
  have hon1a := hon1.trans (onto_sil (w' := w1a) hon1.dk hon1.rel hhid hh1a ho1a)
  have hsz1a : w1a.heap.size = w1.heap.size := by rw [hh1a]
  rw [← hsz1a] at hst1a
  have hwilla := lift_op1 (D := D) (ops := ops4) (i := 2) (rest := [3, 4, 5, 6, 7, 8]) (o := o42) (b := base 4) (k := [.code r4]) (cw := b₀.at a₀ (.inRegion ops₀ (i₀ :: rest₀) :: k₀) :: cs) (w := w1a) (a := ⟨#[.slice a ds.length cap, tt 1, tt 2, tt 3, .int .i64 (ds.length : Int), .slice (some ⟨w.heap.size, 0, none⟩) (ds.length + 8) (ds.length + 8), .slice vR.a vR.n vR.c, tt 7, tt 8, tt 9, tt 10, tt 11, tt 12, tt 13, tt 14, tt 15, tt 16, tt 17, tt 18, tt 19, tt 20, tt 21, tt 22, tt 23, tt 24, tt 25, tt 26, tt 27, tt 28, tt 29, tt 30, tt 31, tt 32, tt 33, tt 34, tt 35, tt 36, tt 37, tt 38, tt 39, tt 40, tt 41, tt 42, tt 43, tt 44, tt 45, tt 46, tt 47, tt 48, tt 49, tt 50, tt 51, tt 52, tt 53, tt 54, tt 55, tt 56, tt 57, tt 58, tt 59, tt 60, tt 61, tt 62, tt 63, tt 64, tt 65, .slice (some ⟨w.heap.size, 0, none⟩) (ds.length + 8) (ds.length + 8), .int .i64 (ds.length : Int), tt 68, tt 69, tt 70, tt 71, tt 72, tt 73, tt 74, tt 75, tt 76, tt 77, tt 78, tt 79, tt 80, tt 81, tt 82, tt 83, tt 84, tt 85, tt 86, tt 87, tt 88, tt 89, tt 90, tt 91, tt 92, tt 93, tt 94, tt 95, tt 96, tt 97, tt 98, tt 99, tt 100, tt 101, tt 102, tt 103, tt 104, tt 105, tt 106, tt 107, tt 108, tt 109, tt 110, tt 111, tt 112, tt 113, tt 114, tt 115, tt 116, tt 117, tt 118, tt 119, tt 120, tt 121, tt 122, tt 123, tt 124, tt 125, tt 126, tt 127, tt 128, tt 129, tt 130, tt 131, tt 132, tt 133, tt 134, tt 135, tt 136, tt 137, tt 138, tt 139, tt 140, tt 141, tt 142, tt 143, tt 144, tt 145], []⟩)
    (Φ := fun a' v' => a' = ⟨#[.slice a ds.length cap, tt 1, tt 2, tt 3, .int .i64 (ds.length : Int), .slice (some ⟨w.heap.size, 0, none⟩) (ds.length + 8) (ds.length + 8), .slice vR.a vR.n vR.c, tt 7, tt 8, tt 9, tt 10, tt 11, tt 12, tt 13, tt 14, tt 15, tt 16, tt 17, tt 18, tt 19, tt 20, tt 21, tt 22, tt 23, tt 24, tt 25, tt 26, tt 27, tt 28, tt 29, tt 30, tt 31, tt 32, tt 33, tt 34, tt 35, tt 36, tt 37, tt 38, tt 39, tt 40, tt 41, tt 42, tt 43, tt 44, tt 45, tt 46, tt 47, tt 48, tt 49, tt 50, tt 51, tt 52, tt 53, tt 54, tt 55, tt 56, tt 57, tt 58, tt 59, tt 60, tt 61, tt 62, tt 63, tt 64, tt 65, .slice (some ⟨w.heap.size, 0, none⟩) (ds.length + 8) (ds.length + 8), .int .i64 (ds.length : Int), .slice (some ⟨w.heap.size, 0, none⟩) ds.length (ds.length + 8), tt 69, tt 70, tt 71, tt 72, tt 73, tt 74, tt 75, tt 76, tt 77, tt 78, tt 79, tt 80, tt 81, tt 82, tt 83, tt 84, tt 85, tt 86, tt 87, tt 88, tt 89, tt 90, tt 91, tt 92, tt 93, tt 94, tt 95, tt 96, tt 97, tt 98, tt 99, tt 100, tt 101, tt 102, tt 103, tt 104, tt 105, tt 106, tt 107, tt 108, tt 109, tt 110, tt 111, tt 112, tt 113, tt 114, tt 115, tt 116, tt 117, tt 118, tt 119, tt 120, tt 121, tt 122, tt 123, tt 124, tt 125, tt 126, tt 127, tt 128, tt 129, tt 130, tt 131, tt 132, tt 133, tt 134, tt 135, tt 136, tt 137, tt 138, tt 139, tt 140, tt 141, tt 142, tt 143, tt 144, tt 145], []⟩ ∧ Rel (veil D) w1a v') rfl rfl oko4 (fun x hx => by rw [List.mem_singleton.1 hx]; exact okr4) o42_at (by kernel_rfl) ⟨_, hon1a.rel⟩ (fun u hu => ⟨_, u, slice4 (a := a) (cap := cap) (vR := vR) u, rfl, hu⟩)
  refine (runs_will hhid hwilla hst1a).then fun m2 t2 h2 => ?_
  obtain ⟨g2, w1b, ⟨a1b, v1b, rfl, hr1b, hs1b, _, rfl, hu1b⟩, hst1b⟩ := h2
  have hon1b := hon1a.trans (onto_lone hon1a.dk hon1a.rel hhid (Nat.le_trans hB hon1a.up) hu1b hr1b hs1b (Below.refl _ _))
  refine (runs_sil (mid4b (h0 := w1b.heap) (t := tt)) rfl hst1b).then fun m2 t2 h2 => ?_
  obtain ⟨g2, w2, ⟨rfl, hh2⟩, ho2, hst2⟩ := h2
  have hon2 := hon1b.trans (onto_sil (w' := w2) hon1b.dk hon1b.rel hhid hh2 ho2)
  have hsz2 : w2.heap.size = w1b.heap.size := by rw [hh2]
  rw [← hsz2] at hst2
  have hL1 := hL1.tw ((tw_rel hon1a.dk hon1a.rel hu1b))
  obtain ⟨X, hrow, hX0, hX, hX1⟩ := hL1.row hel
  have hIns := hL1.ins hel hI
  have hst2' : Stand Tryz.prog Shun w2.heap.size (o + 1) (G ((base 8).at ⟨#[.slice (some ⟨w.heap.size, 0, none⟩) es.length (ds.length + 8)] ++ Array.replicate 12 undef, []⟩ [.code (Tryz.f8.body.getD .skip)]) ((base 4).at ⟨#[.slice a ds.length cap, tt 1, tt 2, tt 3, .int .i64 (ds.length : Int), .slice (some ⟨w.heap.size, 0, none⟩) (ds.length + 8) (ds.length + 8), .slice vR.a vR.n vR.c, tt 7, tt 8, tt 9, tt 10, tt 11, tt 12, tt 13, tt 14, tt 15, tt 16, tt 17, tt 18, tt 19, tt 20, tt 21, tt 22, tt 23, tt 24, tt 25, tt 26, tt 27, tt 28, tt 29, tt 30, tt 31, tt 32, tt 33, tt 34, tt 35, tt 36, tt 37, tt 38, tt 39, tt 40, tt 41, tt 42, tt 43, tt 44, tt 45, tt 46, tt 47, tt 48, tt 49, tt 50, tt 51, tt 52, tt 53, tt 54, tt 55, tt 56, tt 57, tt 58, tt 59, tt 60, tt 61, tt 62, tt 63, tt 64, tt 65, .slice (some ⟨w.heap.size, 0, none⟩) (ds.length + 8) (ds.length + 8), .int .i64 (ds.length : Int), .slice (some ⟨w.heap.size, 0, none⟩) ds.length (ds.length + 8), tt 69, tt 70, tt 71, tt 72, tt 73, tt 74, tt 75, tt 76, tt 77, tt 78, tt 79, tt 80, tt 81, tt 82, tt 83, tt 84, tt 85, tt 86, tt 87, tt 88, tt 89, tt 90, tt 91, tt 92, tt 93, tt 94, tt 95, tt 96, tt 97, tt 98, tt 99, tt 100, tt 101, tt 102, tt 103, tt 104, tt 105, tt 106, tt 107, tt 108, tt 109, tt 110, tt 111, tt 112, tt 113, tt 114, tt 115, tt 116, tt 117, tt 118, tt 119, tt 120, tt 121, tt 122, tt 123, tt 124, tt 125, tt 126, tt 127, tt 128, tt 129, tt 130, tt 131, tt 132, tt 133, tt 134, tt 135, tt 136, tt 137, tt 138, tt 139, tt 140, tt 141, tt 142, tt 143, tt 144, tt 145], []⟩ (.inRegion ops4 (3 :: [4, 5, 6, 7, 8]) :: [.code r4]) :: (b₀.at a₀ (.inRegion ops₀ (i₀ :: rest₀) :: k₀) :: cs))) w2 m2 t2 := by
    rw [hel]
    exact hst2
  refine (new8_runs (Nat.le_trans hB hon2.up) hon2.rel hon2.dk hhid hrow hX0 hX hX1 hIns ho rfl rfl oko4 (fun x hx => by rw [List.mem_singleton.1 hx]; exact okr4) hst2').then fun m3 t3 h3 => ?_
  clear hst hst1 hst2 hst2'
  obtain ⟨w3, v3, Shun', D', o', val, hon3, hres, ho', hst3⟩ := h3
  have hon := hon2.trans hon3
  have hL3 := hL1.tw hon3.tw
  have hfs := hL1.fsts hel
  unfold Res8 at hres
  rw [hfs] at hres
  have hkps : es.map (fun p => kp p.1) = ds.map (fun p => kp p.1) := by
    have := congrArg (List.map kp) hfs
    simpa [List.map_map, Function.comp_def] using this
  by_cases hso : Sound (ds.map (·.1))
  · rcases hres with ⟨_, pw, pl, L, hval, hcw, hled, hLm, _, _⟩ | ⟨hno, _⟩
    rotate_left
    · exact absurd hso hno
    subst hval
    rw [hkps] at hLm
    have hact : after (base 4) ⟨#[.slice a ds.length cap, tt 1, tt 2, tt 3, .int .i64 (ds.length : Int), .slice (some ⟨w.heap.size, 0, none⟩) (ds.length + 8) (ds.length + 8), .slice vR.a vR.n vR.c, tt 7, tt 8, tt 9, tt 10, tt 11, tt 12, tt 13, tt 14, tt 15, tt 16, tt 17, tt 18, tt 19, tt 20, tt 21, tt 22, tt 23, tt 24, tt 25, tt 26, tt 27, tt 28, tt 29, tt 30, tt 31, tt 32, tt 33, tt 34, tt 35, tt 36, tt 37, tt 38, tt 39, tt 40, tt 41, tt 42, tt 43, tt 44, tt 45, tt 46, tt 47, tt 48, tt 49, tt 50, tt 51, tt 52, tt 53, tt 54, tt 55, tt 56, tt 57, tt 58, tt 59, tt 60, tt 61, tt 62, tt 63, tt 64, tt 65, .slice (some ⟨w.heap.size, 0, none⟩) (ds.length + 8) (ds.length + 8), .int .i64 (ds.length : Int), .slice (some ⟨w.heap.size, 0, none⟩) ds.length (ds.length + 8), tt 69, tt 70, tt 71, tt 72, tt 73, tt 74, tt 75, tt 76, tt 77, tt 78, tt 79, tt 80, tt 81, tt 82, tt 83, tt 84, tt 85, tt 86, tt 87, tt 88, tt 89, tt 90, tt 91, tt 92, tt 93, tt 94, tt 95, tt 96, tt 97, tt 98, tt 99, tt 100, tt 101, tt 102, tt 103, tt 104, tt 105, tt 106, tt 107, tt 108, tt 109, tt 110, tt 111, tt 112, tt 113, tt 114, tt 115, tt 116, tt 117, tt 118, tt 119, tt 120, tt 121, tt 122, tt 123, tt 124, tt 125, tt 126, tt 127, tt 128, tt 129, tt 130, tt 131, tt 132, tt 133, tt 134, tt 135, tt 136, tt 137, tt 138, tt 139, tt 140, tt 141, tt 142, tt 143, tt 144, tt 145], []⟩ ops4 3 [4, 5, 6, 7, 8] [.code r4] (.tuple #[.pointer (some ⟨pw, 0, none⟩), .nilIface]) = (base 4).at ⟨#[.slice a ds.length cap, tt 1, tt 2, tt 3, .int .i64 (ds.length : Int), .slice (some ⟨w.heap.size, 0, none⟩) (ds.length + 8) (ds.length + 8), .slice vR.a vR.n vR.c, tt 7, tt 8, tt 9, tt 10, tt 11, tt 12, tt 13, tt 14, tt 15, tt 16, tt 17, tt 18, tt 19, tt 20, tt 21, tt 22, tt 23, tt 24, tt 25, tt 26, tt 27, tt 28, tt 29, tt 30, tt 31, tt 32, tt 33, tt 34, tt 35, tt 36, tt 37, tt 38, tt 39, tt 40, tt 41, tt 42, tt 43, tt 44, tt 45, tt 46, tt 47, tt 48, tt 49, tt 50, tt 51, tt 52, tt 53, tt 54, tt 55, tt 56, tt 57, tt 58, tt 59, tt 60, tt 61, tt 62, tt 63, tt 64, tt 65, .slice (some ⟨w.heap.size, 0, none⟩) (ds.length + 8) (ds.length + 8), .int .i64 (ds.length : Int), .slice (some ⟨w.heap.size, 0, none⟩) ds.length (ds.length + 8), .tuple #[.pointer (some ⟨pw, 0, none⟩), .nilIface], tt 70, tt 71, tt 72, tt 73, tt 74, tt 75, tt 76, tt 77, tt 78, tt 79, tt 80, tt 81, tt 82, tt 83, tt 84, tt 85, tt 86, tt 87, tt 88, tt 89, tt 90, tt 91, tt 92, tt 93, tt 94, tt 95, tt 96, tt 97, tt 98, tt 99, tt 100, tt 101, tt 102, tt 103, tt 104, tt 105, tt 106, tt 107, tt 108, tt 109, tt 110, tt 111, tt 112, tt 113, tt 114, tt 115, tt 116, tt 117, tt 118, tt 119, tt 120, tt 121, tt 122, tt 123, tt 124, tt 125, tt 126, tt 127, tt 128, tt 129, tt 130, tt 131, tt 132, tt 133, tt 134, tt 135, tt 136, tt 137, tt 138, tt 139, tt 140, tt 141, tt 142, tt 143, tt 144, tt 145], []⟩ (.inRegion ops4 [4, 5, 6, 7, 8] :: [.code r4]) := rfl
    rw [hact] at hst3
    clear hact
    obtain ⟨t2, hT2, ht2⟩ := lit146 #[.slice a ds.length cap, tt 1, tt 2, tt 3, .int .i64 (ds.length : Int), .slice (some ⟨w.heap.size, 0, none⟩) (ds.length + 8) (ds.length + 8), .slice vR.a vR.n vR.c, tt 7, tt 8, tt 9, tt 10, tt 11, tt 12, tt 13, tt 14, tt 15, tt 16, tt 17, tt 18, tt 19, tt 20, tt 21, tt 22, tt 23, tt 24, tt 25, tt 26, tt 27, tt 28, tt 29, tt 30, tt 31, tt 32, tt 33, tt 34, tt 35, tt 36, tt 37, tt 38, tt 39, tt 40, tt 41, tt 42, tt 43, tt 44, tt 45, tt 46, tt 47, tt 48, tt 49, tt 50, tt 51, tt 52, tt 53, tt 54, tt 55, tt 56, tt 57, tt 58, tt 59, tt 60, tt 61, tt 62, tt 63, tt 64, tt 65, .slice (some ⟨w.heap.size, 0, none⟩) (ds.length + 8) (ds.length + 8), .int .i64 (ds.length : Int), .slice (some ⟨w.heap.size, 0, none⟩) ds.length (ds.length + 8), .tuple #[.pointer (some ⟨pw, 0, none⟩), .nilIface], tt 70, tt 71, tt 72, tt 73, tt 74, tt 75, tt 76, tt 77, tt 78, tt 79, tt 80, tt 81, tt 82, tt 83, tt 84, tt 85, tt 86, tt 87, tt 88, tt 89, tt 90, tt 91, tt 92, tt 93, tt 94, tt 95, tt 96, tt 97, tt 98, tt 99, tt 100, tt 101, tt 102, tt 103, tt 104, tt 105, tt 106, tt 107, tt 108, tt 109, tt 110, tt 111, tt 112, tt 113, tt 114, tt 115, tt 116, tt 117, tt 118, tt 119, tt 120, tt 121, tt 122, tt 123, tt 124, tt 125, tt 126, tt 127, tt 128, tt 129, tt 130, tt 131, tt 132, tt 133, tt 134, tt 135, tt 136, tt 137, tt 138, tt 139, tt 140, tt 141, tt 142, tt 143, tt 144, tt 145] rfl
    rw [hT2, ht2 0 _ rfl, ht2 4 _ rfl, ht2 5 _ rfl, ht2 6 _ rfl, ht2 69 _ rfl] at hst3
    clear hT2 ht2
    have hwill2 := lift_rest_ops (D := D') (f := 4) (fn := Tryz.f4) (c := r4) (ops := ops4) (l := [4, 5, 6, 7, 8]) (b := base 4) (b₀ := b₀) (a₀ := a₀) (ops₀ := ops₀) (i₀ := i₀) (rest₀ := rest₀) (k₀ := k₀) (cw := cs) (w := w3) (a := ⟨#[.slice a ds.length cap, t2 1, t2 2, t2 3, .int .i64 (ds.length : Int), .slice (some ⟨w.heap.size, 0, none⟩) (ds.length + 8) (ds.length + 8), .slice vR.a vR.n vR.c, t2 7, t2 8, t2 9, t2 10, t2 11, t2 12, t2 13, t2 14, t2 15, t2 16, t2 17, t2 18, t2 19, t2 20, t2 21, t2 22, t2 23, t2 24, t2 25, t2 26, t2 27, t2 28, t2 29, t2 30, t2 31, t2 32, t2 33, t2 34, t2 35, t2 36, t2 37, t2 38, t2 39, t2 40, t2 41, t2 42, t2 43, t2 44, t2 45, t2 46, t2 47, t2 48, t2 49, t2 50, t2 51, t2 52, t2 53, t2 54, t2 55, t2 56, t2 57, t2 58, t2 59, t2 60, t2 61, t2 62, t2 63, t2 64, t2 65, t2 66, t2 67, t2 68, .tuple #[.pointer (some ⟨pw, 0, none⟩), .nilIface], t2 70, t2 71, t2 72, t2 73, t2 74, t2 75, t2 76, t2 77, t2 78, t2 79, t2 80, t2 81, t2 82, t2 83, t2 84, t2 85, t2 86, t2 87, t2 88, t2 89, t2 90, t2 91, t2 92, t2 93, t2 94, t2 95, t2 96, t2 97, t2 98, t2 99, t2 100, t2 101, t2 102, t2 103, t2 104, t2 105, t2 106, t2 107, t2 108, t2 109, t2 110, t2 111, t2 112, t2 113, t2 114, t2 115, t2 116, t2 117, t2 118, t2 119, t2 120, t2 121, t2 122, t2 123, t2 124, t2 125, t2 126, t2 127, t2 128, t2 129, t2 130, t2 131, t2 132, t2 133, t2 134, t2 135, t2 136, t2 137, t2 138, t2 139, t2 140, t2 141, t2 142, t2 143, t2 144, t2 145], []⟩)
      (Ψ := fun val v' => ∃ u, Rel (veil D') w3 u ∧ Kept (Xm w.heap.size es) u v' ∧ ∃ pp pb vA ys, val = .tuple #[.pointer (some ⟨pp, 0, none⟩), .bool true] ∧ v'.cell? ⟨pp, 0, none⟩ = some (.pointer (some ⟨pw, 0, none⟩)) ∧ v'.cell? ⟨pp, 1, none⟩ = some (.pointer (some ⟨pb, 0, none⟩)) ∧ v'.cell? ⟨pb, 0, none⟩ = some (.slice (SV.a vA) ys.length (SV.c vA)) ∧ InR v' (SV.a vA) ys ∧ ys.map (·.1) = ds.map (fun p => kp p.1))
      rfl TryQ.func4 rfl rfl oko4 okr4 hb₀ ha₀ ho₀ hk₀ ⟨_, hon3.rel⟩
      (fun u hu => by
        have hx := post4_yes (t := t2) (cap := cap) (vR := vR) (E := w.heap.size) (u := u) (w₀ := v) (hL3.tw (tw_rel hon3.dk hon3.rel hu)) hel hE hI (fun p x hp => (hon.tw.trans (tw_rel hon3.dk hon3.rel hu)).cell hp) hso pw (fun val v' => ∃ u, Rel (veil D') w3 u ∧ Kept (Xm w.heap.size es) u v' ∧ ∃ pp pb vA ys, val = .tuple #[.pointer (some ⟨pp, 0, none⟩), .bool true] ∧ v'.cell? ⟨pp, 0, none⟩ = some (.pointer (some ⟨pw, 0, none⟩)) ∧ v'.cell? ⟨pp, 1, none⟩ = some (.pointer (some ⟨pb, 0, none⟩)) ∧ v'.cell? ⟨pb, 0, none⟩ = some (.slice (SV.a vA) ys.length (SV.c vA)) ∧ InR v' (SV.a vA) ys ∧ ys.map (·.1) = ds.map (fun p => kp p.1)) (fun W pp pb vA ys hk _ hc0 hc1 hc2 hin hys => ⟨u, hu, hk, pp, pb, vA, ys, rfl, hc0, hc1, hc2, hin, hys⟩)
        dsimp only at hx ⊢
        exact hx)
    refine (runs_will hon3.hid hwill2 hst3).mono fun m4 t4 h4 => ?_
    obtain ⟨g4, w4, ⟨val, v4, rfl, hr4, hs4, u, hu, hk, pp, pb, vA, ys, hval, hc0, hc1, hc2, hin, hys⟩, hst4⟩ := h4
    have hLu := hL3.tw (tw_rel hon3.dk hon3.rel hu)
    have htu := tw_rel hon3.dk hon3.rel hu
    have hX := xm_row hLu
    exact ⟨w4, v4, Shun', D', o', val, ⟨hon.toOn0.trans (on_kept hLu hB hon3.dk hu hr4 hs4 hk), hon3.hid, tw_kept hLu (hon.tw.trans htu) (Nat.le_of_eq hE) hk⟩,
      .inl ⟨hso, pp, pw, pl, L, pb, vA, ys, hval, hc0, hc1, ptr_kept (htu.cell hcw) hk hX, (hled.tw htu).kept hk hX, hLm, hc2, hin, hys⟩, ho', hst4⟩
  · rcases hres with ⟨hyes, _⟩ | ⟨_, hval⟩
    · exact absurd hyes hso
    subst hval
    have hact : after (base 4) ⟨#[.slice a ds.length cap, tt 1, tt 2, tt 3, .int .i64 (ds.length : Int), .slice (some ⟨w.heap.size, 0, none⟩) (ds.length + 8) (ds.length + 8), .slice vR.a vR.n vR.c, tt 7, tt 8, tt 9, tt 10, tt 11, tt 12, tt 13, tt 14, tt 15, tt 16, tt 17, tt 18, tt 19, tt 20, tt 21, tt 22, tt 23, tt 24, tt 25, tt 26, tt 27, tt 28, tt 29, tt 30, tt 31, tt 32, tt 33, tt 34, tt 35, tt 36, tt 37, tt 38, tt 39, tt 40, tt 41, tt 42, tt 43, tt 44, tt 45, tt 46, tt 47, tt 48, tt 49, tt 50, tt 51, tt 52, tt 53, tt 54, tt 55, tt 56, tt 57, tt 58, tt 59, tt 60, tt 61, tt 62, tt 63, tt 64, tt 65, .slice (some ⟨w.heap.size, 0, none⟩) (ds.length + 8) (ds.length + 8), .int .i64 (ds.length : Int), .slice (some ⟨w.heap.size, 0, none⟩) ds.length (ds.length + 8), tt 69, tt 70, tt 71, tt 72, tt 73, tt 74, tt 75, tt 76, tt 77, tt 78, tt 79, tt 80, tt 81, tt 82, tt 83, tt 84, tt 85, tt 86, tt 87, tt 88, tt 89, tt 90, tt 91, tt 92, tt 93, tt 94, tt 95, tt 96, tt 97, tt 98, tt 99, tt 100, tt 101, tt 102, tt 103, tt 104, tt 105, tt 106, tt 107, tt 108, tt 109, tt 110, tt 111, tt 112, tt 113, tt 114, tt 115, tt 116, tt 117, tt 118, tt 119, tt 120, tt 121, tt 122, tt 123, tt 124, tt 125, tt 126, tt 127, tt 128, tt 129, tt 130, tt 131, tt 132, tt 133, tt 134, tt 135, tt 136, tt 137, tt 138, tt 139, tt 140, tt 141, tt 142, tt 143, tt 144, tt 145], []⟩ ops4 3 [4, 5, 6, 7, 8] [.code r4] (.tuple #[.pointer none, .iface 69 (.agg #[.int .i64 1])]) = (base 4).at ⟨#[.slice a ds.length cap, tt 1, tt 2, tt 3, .int .i64 (ds.length : Int), .slice (some ⟨w.heap.size, 0, none⟩) (ds.length + 8) (ds.length + 8), .slice vR.a vR.n vR.c, tt 7, tt 8, tt 9, tt 10, tt 11, tt 12, tt 13, tt 14, tt 15, tt 16, tt 17, tt 18, tt 19, tt 20, tt 21, tt 22, tt 23, tt 24, tt 25, tt 26, tt 27, tt 28, tt 29, tt 30, tt 31, tt 32, tt 33, tt 34, tt 35, tt 36, tt 37, tt 38, tt 39, tt 40, tt 41, tt 42, tt 43, tt 44, tt 45, tt 46, tt 47, tt 48, tt 49, tt 50, tt 51, tt 52, tt 53, tt 54, tt 55, tt 56, tt 57, tt 58, tt 59, tt 60, tt 61, tt 62, tt 63, tt 64, tt 65, .slice (some ⟨w.heap.size, 0, none⟩) (ds.length + 8) (ds.length + 8), .int .i64 (ds.length : Int), .slice (some ⟨w.heap.size, 0, none⟩) ds.length (ds.length + 8), .tuple #[.pointer none, .iface 69 (.agg #[.int .i64 1])], tt 70, tt 71, tt 72, tt 73, tt 74, tt 75, tt 76, tt 77, tt 78, tt 79, tt 80, tt 81, tt 82, tt 83, tt 84, tt 85, tt 86, tt 87, tt 88, tt 89, tt 90, tt 91, tt 92, tt 93, tt 94, tt 95, tt 96, tt 97, tt 98, tt 99, tt 100, tt 101, tt 102, tt 103, tt 104, tt 105, tt 106, tt 107, tt 108, tt 109, tt 110, tt 111, tt 112, tt 113, tt 114, tt 115, tt 116, tt 117, tt 118, tt 119, tt 120, tt 121, tt 122, tt 123, tt 124, tt 125, tt 126, tt 127, tt 128, tt 129, tt 130, tt 131, tt 132, tt 133, tt 134, tt 135, tt 136, tt 137, tt 138, tt 139, tt 140, tt 141, tt 142, tt 143, tt 144, tt 145], []⟩ (.inRegion ops4 [4, 5, 6, 7, 8] :: [.code r4]) := rfl
    rw [hact] at hst3
    clear hact
    obtain ⟨t2, hT2, ht2⟩ := lit146 #[.slice a ds.length cap, tt 1, tt 2, tt 3, .int .i64 (ds.length : Int), .slice (some ⟨w.heap.size, 0, none⟩) (ds.length + 8) (ds.length + 8), .slice vR.a vR.n vR.c, tt 7, tt 8, tt 9, tt 10, tt 11, tt 12, tt 13, tt 14, tt 15, tt 16, tt 17, tt 18, tt 19, tt 20, tt 21, tt 22, tt 23, tt 24, tt 25, tt 26, tt 27, tt 28, tt 29, tt 30, tt 31, tt 32, tt 33, tt 34, tt 35, tt 36, tt 37, tt 38, tt 39, tt 40, tt 41, tt 42, tt 43, tt 44, tt 45, tt 46, tt 47, tt 48, tt 49, tt 50, tt 51, tt 52, tt 53, tt 54, tt 55, tt 56, tt 57, tt 58, tt 59, tt 60, tt 61, tt 62, tt 63, tt 64, tt 65, .slice (some ⟨w.heap.size, 0, none⟩) (ds.length + 8) (ds.length + 8), .int .i64 (ds.length : Int), .slice (some ⟨w.heap.size, 0, none⟩) ds.length (ds.length + 8), .tuple #[.pointer none, .iface 69 (.agg #[.int .i64 1])], tt 70, tt 71, tt 72, tt 73, tt 74, tt 75, tt 76, tt 77, tt 78, tt 79, tt 80, tt 81, tt 82, tt 83, tt 84, tt 85, tt 86, tt 87, tt 88, tt 89, tt 90, tt 91, tt 92, tt 93, tt 94, tt 95, tt 96, tt 97, tt 98, tt 99, tt 100, tt 101, tt 102, tt 103, tt 104, tt 105, tt 106, tt 107, tt 108, tt 109, tt 110, tt 111, tt 112, tt 113, tt 114, tt 115, tt 116, tt 117, tt 118, tt 119, tt 120, tt 121, tt 122, tt 123, tt 124, tt 125, tt 126, tt 127, tt 128, tt 129, tt 130, tt 131, tt 132, tt 133, tt 134, tt 135, tt 136, tt 137, tt 138, tt 139, tt 140, tt 141, tt 142, tt 143, tt 144, tt 145] rfl
    rw [hT2, ht2 0 _ rfl, ht2 4 _ rfl, ht2 5 _ rfl, ht2 6 _ rfl, ht2 69 _ rfl] at hst3
    clear hT2 ht2
    have hwill2 := lift_rest_ops (D := D') (f := 4) (fn := Tryz.f4) (c := r4) (ops := ops4) (l := [4, 5, 6, 7, 8]) (b := base 4) (b₀ := b₀) (a₀ := a₀) (ops₀ := ops₀) (i₀ := i₀) (rest₀ := rest₀) (k₀ := k₀) (cw := cs) (w := w3) (a := ⟨#[.slice a ds.length cap, t2 1, t2 2, t2 3, .int .i64 (ds.length : Int), .slice (some ⟨w.heap.size, 0, none⟩) (ds.length + 8) (ds.length + 8), .slice vR.a vR.n vR.c, t2 7, t2 8, t2 9, t2 10, t2 11, t2 12, t2 13, t2 14, t2 15, t2 16, t2 17, t2 18, t2 19, t2 20, t2 21, t2 22, t2 23, t2 24, t2 25, t2 26, t2 27, t2 28, t2 29, t2 30, t2 31, t2 32, t2 33, t2 34, t2 35, t2 36, t2 37, t2 38, t2 39, t2 40, t2 41, t2 42, t2 43, t2 44, t2 45, t2 46, t2 47, t2 48, t2 49, t2 50, t2 51, t2 52, t2 53, t2 54, t2 55, t2 56, t2 57, t2 58, t2 59, t2 60, t2 61, t2 62, t2 63, t2 64, t2 65, t2 66, t2 67, t2 68, .tuple #[.pointer none, .iface 69 (.agg #[.int .i64 1])], t2 70, t2 71, t2 72, t2 73, t2 74, t2 75, t2 76, t2 77, t2 78, t2 79, t2 80, t2 81, t2 82, t2 83, t2 84, t2 85, t2 86, t2 87, t2 88, t2 89, t2 90, t2 91, t2 92, t2 93, t2 94, t2 95, t2 96, t2 97, t2 98, t2 99, t2 100, t2 101, t2 102, t2 103, t2 104, t2 105, t2 106, t2 107, t2 108, t2 109, t2 110, t2 111, t2 112, t2 113, t2 114, t2 115, t2 116, t2 117, t2 118, t2 119, t2 120, t2 121, t2 122, t2 123, t2 124, t2 125, t2 126, t2 127, t2 128, t2 129, t2 130, t2 131, t2 132, t2 133, t2 134, t2 135, t2 136, t2 137, t2 138, t2 139, t2 140, t2 141, t2 142, t2 143, t2 144, t2 145], []⟩)
      (Ψ := fun val v' => ∃ u, Rel (veil D') w3 u ∧ Kept (Xm w.heap.size es) u v' ∧ val = .tuple #[.pointer none, .bool true])
      rfl TryQ.func4 rfl rfl oko4 okr4 hb₀ ha₀ ho₀ hk₀ ⟨_, hon3.rel⟩
      (fun u hu => by
        have hx := post4_no (t := t2) (cap := cap) (vR := vR) (E := w.heap.size) (u := u) (w₀ := v) (hL3.tw (tw_rel hon3.dk hon3.rel hu)) hel hE hI (fun p x hp => (hon.tw.trans (tw_rel hon3.dk hon3.rel hu)).cell hp) hso (fun val v' => ∃ u, Rel (veil D') w3 u ∧ Kept (Xm w.heap.size es) u v' ∧ val = .tuple #[.pointer none, .bool true]) (fun W hk => ⟨u, hu, hk, rfl⟩)
        dsimp only at hx ⊢
        exact hx)
    refine (runs_will hon3.hid hwill2 hst3).mono fun m4 t4 h4 => ?_
    obtain ⟨g4, w4, ⟨val, v4, rfl, hr4, hs4, u, hu, hk, hval⟩, hst4⟩ := h4
    have hLu := hL3.tw (tw_rel hon3.dk hon3.rel hu)
    exact ⟨w4, v4, Shun', D', o', val, ⟨hon.toOn0.trans (on_kept hLu hB hon3.dk hu hr4 hs4 hk), hon3.hid, tw_kept hLu (hon.tw.trans (tw_rel hon3.dk hon3.rel hu)) (Nat.le_of_eq hE) hk⟩, .inr ⟨hso, hval⟩, ho', hst4⟩
end Go.Mark
/-
 Makes (3): the book, all twice, looks.
-/
namespace Go.Mark
open Go.RowKit Go.Proofs
noncomputable def p3 : List Code := match Tryz.f3.body with
 | some (.seq _ (.seq _ (.seq _ (.seq _ (.seq _ (.seq _ (.seq a (.seq b (.seq c (.seq d (.seq e _))))))))))) => [a, b, c, d, e]
 | _ => []
theorem kept_low {X : Nat → Prop} {w v : World} {B : Nat} (h : Kept X w v) (hX : ∀ g, X g → B ≤ g) (hB : B ≤ w.heap.size) : Below B w v :=
 ⟨h.os, h.tape, h.output, h.size, fun k hk => h.block k (by omega) (fun x => by have := hX k x; omega)⟩
/-- the empty book -/
abbrev bk0 : Bk := ⟨0, ⟨none, 0, 0⟩, ⟨none, 0, 0⟩, ⟨none, 0, 0⟩, [], [], []⟩
theorem book0 (u : World) : Book (u.alloc (.cells (bkCells bk0).toArray 37)) u.heap.size bk0 :=
 ⟨show (u.heap.push (.cells (bkCells bk0).toArray 37))[u.heap.size]? = _ by simp, ⟨rfl, .inl ⟨rfl, rfl⟩⟩, ⟨rfl, .inl ⟨rfl, rfl⟩⟩, ⟨rfl, .inl ⟨rfl, rfl⟩⟩, fun p hp => (by cases hp), fun p hp => (by cases hp), fun p hp => (by cases hp), fun p hp => (by cases hp)⟩
theorem uses0 (bk g : Nat) (h : bk0.uses bk g) : g = bk := by
 rcases h with h | h | h | h | ⟨p, hp, _⟩ | ⟨p, hp, _⟩
 ·exact h
 ·cases h
 ·cases h
 ·cases h
 ·cases hp
 ·cases hp
theorem told_mem {ds : List AccD} {d : AccD} (h : d ∈ told ds) : ∃ e ∈ ds, d.bal = e.bal ∧ d.slots.Perm e.slots := by
 rw [(told_perm ds).mem_iff] at h
 obtain ⟨e, he, rfl⟩ := List.mem_map.1 h
 exact ⟨e, he, rfl, srt_perm _ _⟩
section
variable {t : Nat → Value}
set_option maxRecDepth 100000 in
set_option maxHeartbeats 4000000 in
theorem fin3 (u : World) (pp pw pl pb : Nat) (L : List (AccD × Nat)) (vA : SV) (ys : List (AccD × SV)) (h0 : u.cell? ⟨pp, 0, none⟩ = some (.pointer (some ⟨pw, 0, none⟩))) (h1 : u.cell? ⟨pp, 1, none⟩ = some (.pointer (some ⟨pb, 0, none⟩))) (hw : u.cell? ⟨pw, 0, none⟩ = some (.pointer (some ⟨pl, 0, none⟩)))
  (hled : LedgerAt u pl L) (hb : u.cell? ⟨pb, 0, none⟩ = some (.slice vA.a ys.length vA.c)) (hin : InR u vA.a ys) (hLy : L.map (·.1) = ys.map (·.1)) (h64 : ys.length ≤ 64) (hid : (ys.map (·.1.id)).Nodup) (hky : ∀ p ∈ ys, (p.1.slots.map (·.1)).Nodup) (hsl : ∀ p ∈ ys, p.1.slots.length ≤ 64)
  (Φ : Act → World → Prop) (hΦ : Shut (∀ (T : Array Value) (W : World), T.size = 68 → T[2]? = some (.bool true) → Below u.heap.size u W → Φ ⟨T, []⟩ W)) :
  wpChain TryQ.prog Φ p3 ⟨#[t 0, t 1, t 2, t 3, t 4, t 5, t 6, .pointer (some ⟨pp, 0, none⟩), t 8, t 9, t 10, t 11, t 12, t 13, t 14, t 15, t 16, t 17, t 18, t 19, t 20, t 21, t 22, t 23, t 24, t 25, t 26, t 27, t 28, t 29, t 30, t 31, t 32, t 33, t 34, t 35, t 36, t 37, t 38, t 39, t 40, t 41, t 42, t 43, t 44, t 45, t 46, t 47, t 48, t 49, t 50, t 51, t 52, t 53, t 54, t 55, t 56, t 57, t 58, t 59, t 60, t 61, t 62, t 63, t 64, t 65, t 66, t 67], []⟩ u := by
 have hpp := cell_lt4 h0
 have hpw := cell_lt4 hw
 have hpb := cell_lt4 hb
 simp only at hpp hpw hpb
 obtain ⟨T, hT⟩ : ∃ T, T = told (ys.map (·.1)) := ⟨_, rfl⟩
 have hTl : T.length = ys.length := by rw [hT, (told_perm _).length_eq]; simp
 have hTm : ∀ d ∈ T, ∃ p ∈ ys, d.bal = p.1.bal ∧ d.slots.Perm p.1.slots := fun d hd => by
  rw [hT] at hd
  obtain ⟨e, he, h⟩ := told_mem hd
  obtain ⟨p, hp, rfl⟩ := List.mem_map.1 he
  exact ⟨p, hp, h⟩
 have hTs : ∀ d ∈ T, d.slots.length < 1000000 := fun d hd => by
  obtain ⟨p, hp, _, h⟩ := hTm d hd
  rw [h.length_eq]
  have := hsl p hp
  omega
 have hTb : ∀ d ∈ T, d.bal < M := fun d hd => by
  obtain ⟨p, hp, h, _⟩ := hTm d hd
  rw [h]
  exact hin.bal p hp
 have hTk : ∀ d ∈ T, ∀ q ∈ d.slots, q.1 < M ∧ q.2 < M := fun d hd q hq => by
  obtain ⟨p, hp, _, h⟩ := hTm d hd
  exact hin.key p hp q (h.mem_iff.1 hq)
 have h13 : ∀ W, Below u.heap.size u W → Calls TryQ.prog 13 #[.pointer (some ⟨pw, 0, none⟩)] W fun e w' => ∃ v os, e = .returned (.slice v.a v.n v.c) ∧ Below W.heap.size W w' ∧ Lists W.heap.size w' v os ∧ os.map (·.1) = T := fun W hbW => by
  rw [hT, ← hLy]
  exact accounts13 L pw pl W ((hbW.cell (p := ⟨pw, 0, none⟩) hpw).trans hw) (hled.below hbW)
 have h14 : ∀ W, Below u.heap.size u W → Calls TryQ.prog 14 #[.pointer (some ⟨pb, 0, none⟩)] W fun e w' => ∃ v os, e = .returned (.slice v.a v.n v.c) ∧ Below W.heap.size W w' ∧ Lists W.heap.size w' v os ∧ os.map (·.1) = T := fun W hbW => by
  rw [hT]
  exact refAccounts ys pb vA.a vA.c W (hin.below hbW) (Nat.lt_of_lt_of_le hpb hbW.size) ((hbW.cell (p := ⟨pb, 0, none⟩) hpb).trans hb) hid hky (by omega)
 have b0 : Below u.heap.size u (u.alloc (.cells (bkCells bk0).toArray 37)) := (Below.refl _ _).alloc (Nat.le_refl _) _
 have hall : ∀ (C : Bk) (W : World), Below u.heap.size u W → Book W u.heap.size C → C.n < 1000 → C.aa.length < 1000 → C.ss.length < 1000 → (∀ g, C.uses u.heap.size g → u.heap.size ≤ g) →
   Calls TryQ.prog 5 #[.pointer (some ⟨u.heap.size, 0, none⟩), .pointer (some ⟨pp, 0, none⟩)] W fun e w' => e = .returned (.bool true) ∧ Below u.heap.size u w' ∧ ∃ C', Book w' u.heap.size C' ∧ C'.n ≤ C.n + 65 ∧ C'.aa.length ≤ C.aa.length + 4 ∧ C'.ss.length ≤ C.ss.length + 256 ∧ ∀ g, C'.uses u.heap.size g → u.heap.size ≤ g := fun C W hbW hC hn ha hs hu => by
  refine (allS C u.heap.size pp pw pb T W hC (by omega) (by omega) (by omega) (Nat.lt_of_lt_of_le hpp hbW.size) ((hbW.cell (p := ⟨pp, 0, none⟩) hpp).trans h0) ((hbW.cell (p := ⟨pp, 1, none⟩) hpp).trans h1) (by omega) hTs hTb hTk (h13 W hbW) (fun V hV => h14 V (hbW.trans (hV.mono hbW.size)))).mono ?_
  rintro e W1 ⟨rfl, hD⟩
  obtain ⟨C', hC', hn', ha', hs', hu', hk'⟩ := hD.ex
  have hsz := hbW.size
  refine ⟨rfl, hbW.trans (kept_low hk' hu hsz), C', hC', by omega, by omega, by omega, fun g hg => ?_⟩
  rcases hu' g hg with h | h
  ·exact hu g h
  ·omega
 have hall1 := hall bk0 _ b0 (book0 u) (by decide) (by decide) (by decide) (fun g hg => Nat.le_of_eq (uses0 _ g hg).symm)
 dsimp only [p3, Tryz.f3, wpChain]
 go_wp2_with fail
 refine hall1.mono ?_
 rintro e W1 ⟨rfl, b1, C1, hC1, n1, a1, s1, u1⟩
 clear hall1
 go_wp2_with fail
 refine (hall C1 W1 b1 hC1 (by omega) (by simp at a1; omega) (by simp at s1; omega) u1).mono ?_
 rintro e W2 ⟨rfl, b2, C2, hC2, n2, a2, s2, u2⟩
 go_wp2_with fail
 refine (looks C2 u.heap.size W2 hC2 (by omega) (by simp at a1; omega) (by simp at s1; omega)).mono ?_
 rintro e W3 ⟨rfl, b3⟩
 have b4 := b2.trans (b3.mono b2.size)
 go_wp2_with fail
 exact hΦ.out _ _ rfl rfl b4
end
end Go.Mark
