/-
  purserkeep.Divides at this program: it returns true, the answers of Work given by letters.
-/
import Derived.Test.YtbephahokhnccaaLs
import Derived.Test.YtbephahokhnccaaRw
import Derived.Test.YtbephahokhnccaaDi
import Derived.Deep.CutRange
namespace Go.Proofs.Ytbephahokhnccaa
open Go.RowKit Go.Shelf
attribute [local go_sem] wd run_eq4 eq4_self

set_option maxHeartbeats 8000000 in
set_option maxRecDepth 100000 in
theorem divides_walk (a b c q r x y m n : Nat) (w : World)
    (H1 : KW 4 7 2 3) (H2 : KW 5 7 2 1) (Hq : KW 4 a b q) (Hr : KW 5 a b r) (Hx : KW 6 a b x) (Hy : KW 7 a b y) (Hm : PW 9 a b c m) (Hn : PW 8 a b c n)
    (HB : (eq4 (lim b 0) (lim b 1) (lim b 2) (lim b 3) (lim 0 0) (lim 0 1) (lim 0 2) (lim 0 3) = true ∧ eq4 (lim q 0) (lim q 1) (lim q 2) (lim q 3) (lim 0 0) (lim 0 1) (lim 0 2) (lim 0 3) = true ∧ eq4 (lim r 0) (lim r 1) (lim r 2) (lim r 3) (lim 0 0) (lim 0 1) (lim 0 2) (lim 0 3) = true ∧ eq4 (lim x 0) (lim x 1) (lim x 2) (lim x 3) (lim 0 0) (lim 0 1) (lim 0 2) (lim 0 3) = true ∧ eq4 (lim y 0) (lim y 1) (lim y 2) (lim y 3) (lim 0 0) (lim 0 1) (lim 0 2) (lim 0 3) = true) ∨
      (eq4 (lim b 0) (lim b 1) (lim b 2) (lim b 3) (lim 0 0) (lim 0 1) (lim 0 2) (lim 0 3) = false ∧ KW 12 r b 1 ∧ (∃ p1, KW 3 q b p1 ∧ KW 1 p1 r a) ∧ (∃ p2, KW 3 x b p2 ∧ KW 1 p2 y a) ∧ (eq4 (lim y 0) (lim y 1) (lim y 2) (lim y 3) (lim 0 0) (lim 0 1) (lim 0 2) (lim 0 3) = true ∨ (eq4 (lim y 0) (lim y 1) (lim y 2) (lim y 3) (lim 0 0) (lim 0 1) (lim 0 2) (lim 0 3) = false ∧ ∃ s, KW 14 y 0 s ∧ KW 14 a 0 s))))
    (HC : (eq4 (lim c 0) (lim c 1) (lim c 2) (lim c 3) (lim 0 0) (lim 0 1) (lim 0 2) (lim 0 3) = true ∧ eq4 (lim m 0) (lim m 1) (lim m 2) (lim m 3) (lim 0 0) (lim 0 1) (lim 0 2) (lim 0 3) = true ∧ eq4 (lim n 0) (lim n 1) (lim n 2) (lim n 3) (lim 0 0) (lim 0 1) (lim 0 2) (lim 0 3) = true) ∨
      (eq4 (lim c 0) (lim c 1) (lim c 2) (lim c 3) (lim 0 0) (lim 0 1) (lim 0 2) (lim 0 3) = false ∧ KW 12 m c 1 ∧ KW 12 n c 1 ∧ ∃ ra rb d b1 z, KW 5 a c ra ∧ KW 5 b c rb ∧ KW 2 c rb d ∧ PW 8 n d c ra ∧ PW 9 ra rb c m ∧ PW 8 ra rb c n ∧ PW 8 b 1 c b1 ∧ PW 9 a b1 c z ∧ PW 8 m a c z)) :
    Calls Try.prog 5 #[wd a, wd b, wd c] w fun e w' => e = .returned (.bool true) ∧ Below w.heap.size w w' := by
  have hS := heldL3 w a b c
  dsimp only [put4] at hS
  go_enter Try.func5, Try.ntmps5
  go_upto_region 1 with fail
  generalize ((w.alloc (.cells #[.int .u64 (lim a 0), .int .u64 (lim a 1), .int .u64 (lim a 2), .int .u64 (lim a 3)] 24)).alloc (.cells #[.int .u64 (lim b 0), .int .u64 (lim b 1), .int .u64 (lim b 2), .int .u64 (lim b 3)] 24)).alloc (.cells #[.int .u64 (lim c 0), .int .u64 (lim c 1), .int .u64 (lim c 2), .int .u64 (lim c 3)] 24) = W0 at hS ⊢
  go_wp2_with fail
  refine (of_ 7 (by decide) (by decide) _).mono ?_
  rintro e wq1 ⟨rfl, hbn⟩
  replace hS := hS.keep hbn
  clear hbn
  go_wp2_with fail
  refine (of_ 2 (by decide) (by decide) _).mono ?_
  rintro e wq2 ⟨rfl, hbn⟩
  replace hS := hS.keep hbn
  clear hbn
  go_wp2_with fail
  refine (H1 _).mono ?_
  rintro e wq3 ⟨rfl, hbn⟩
  replace hS := hS.keep hbn
  clear hbn
  go_wp2_with fail
  refine (of_ 3 (by decide) (by decide) _).mono ?_
  rintro e wq4 ⟨rfl, hbn⟩
  replace hS := hS.keep hbn
  clear hbn
  go_wp2_with fail
  refine (of_ 7 (by decide) (by decide) _).mono ?_
  rintro e wq5 ⟨rfl, hbn⟩
  replace hS := hS.keep hbn
  clear hbn
  go_wp2_with fail
  refine (of_ 2 (by decide) (by decide) _).mono ?_
  rintro e wq6 ⟨rfl, hbn⟩
  replace hS := hS.keep hbn
  clear hbn
  go_wp2_with fail
  refine (H2 _).mono ?_
  rintro e wq7 ⟨rfl, hbn⟩
  replace hS := hS.keep hbn
  clear hbn
  go_wp2_with fail
  refine (of_ 1 (by decide) (by decide) _).mono ?_
  rintro e wq8 ⟨rfl, hbn⟩
  replace hS := hS.keep hbn
  clear hbn
  go_upto_region 2 with fail
  go_upto_region 3 with fail
  replace hS := hS.put 0
  simp only [put4, lim_z] at hS
  generalize wq8.alloc (.cells #[.int .u64 0, .int .u64 0, .int .u64 0, .int .u64 0] 24) = Wq9 at hS ⊢
  obtain ⟨k0_0, k0_1, k0_2, k0_3⟩ := hS.get (w.heap.size) (a) (.tail _ (.head _))
  obtain ⟨k1_0, k1_1, k1_2, k1_3⟩ := hS.get (w.heap.size + 1) (b) (.tail _ (.tail _ (.head _)))
  go_wp2_with fail
  refine (Hq _).mono ?_
  rintro e wq10 ⟨rfl, hbn⟩
  replace hS := hS.keep hbn
  clear hbn k0_0 k0_1 k0_2 k0_3 k1_0 k1_1 k1_2 k1_3
  go_upto_region 4 with fail
  replace hS := hS.put q
  dsimp only [put4] at hS
  generalize wq10.alloc (.cells #[.int .u64 (lim q 0), .int .u64 (lim q 1), .int .u64 (lim q 2), .int .u64 (lim q 3)] 24) = Wq11 at hS ⊢
  obtain ⟨k0_0, k0_1, k0_2, k0_3⟩ := hS.get (w.heap.size) (a) (.tail _ (.tail _ (.head _)))
  obtain ⟨k1_0, k1_1, k1_2, k1_3⟩ := hS.get (w.heap.size + 1) (b) (.tail _ (.tail _ (.tail _ (.head _))))
  go_wp2_with fail
  refine (Hr _).mono ?_
  rintro e wq12 ⟨rfl, hbn⟩
  replace hS := hS.keep hbn
  clear hbn k0_0 k0_1 k0_2 k0_3 k1_0 k1_1 k1_2 k1_3
  go_upto_region 5 with fail
  replace hS := hS.put r
  dsimp only [put4] at hS
  generalize wq12.alloc (.cells #[.int .u64 (lim r 0), .int .u64 (lim r 1), .int .u64 (lim r 2), .int .u64 (lim r 3)] 24) = Wq13 at hS ⊢
  obtain ⟨k0_0, k0_1, k0_2, k0_3⟩ := hS.get (w.heap.size) (a) (.tail _ (.tail _ (.tail _ (.head _))))
  obtain ⟨k1_0, k1_1, k1_2, k1_3⟩ := hS.get (w.heap.size + 1) (b) (.tail _ (.tail _ (.tail _ (.tail _ (.head _)))))
  go_wp2_with fail
  refine (Hx _).mono ?_
  rintro e wq14 ⟨rfl, hbn⟩
  replace hS := hS.keep hbn
  clear hbn k0_0 k0_1 k0_2 k0_3 k1_0 k1_1 k1_2 k1_3
  go_upto_region 6 with fail
  replace hS := hS.put x
  dsimp only [put4] at hS
  generalize wq14.alloc (.cells #[.int .u64 (lim x 0), .int .u64 (lim x 1), .int .u64 (lim x 2), .int .u64 (lim x 3)] 24) = Wq15 at hS ⊢
  obtain ⟨k0_0, k0_1, k0_2, k0_3⟩ := hS.get (w.heap.size) (a) (.tail _ (.tail _ (.tail _ (.tail _ (.head _)))))
  obtain ⟨k1_0, k1_1, k1_2, k1_3⟩ := hS.get (w.heap.size + 1) (b) (.tail _ (.tail _ (.tail _ (.tail _ (.tail _ (.head _))))))
  go_wp2_with fail
  refine (Hy _).mono ?_
  rintro e wq16 ⟨rfl, hbn⟩
  replace hS := hS.keep hbn
  clear hbn k0_0 k0_1 k0_2 k0_3 k1_0 k1_1 k1_2 k1_3
  go_upto_region 7 with fail
  replace hS := hS.put y
  dsimp only [put4] at hS
  generalize wq16.alloc (.cells #[.int .u64 (lim y 0), .int .u64 (lim y 1), .int .u64 (lim y 2), .int .u64 (lim y 3)] 24) = Wq17 at hS ⊢
  obtain ⟨k0_0, k0_1, k0_2, k0_3⟩ := hS.get (w.heap.size) (a) (.tail _ (.tail _ (.tail _ (.tail _ (.tail _ (.head _))))))
  obtain ⟨k1_0, k1_1, k1_2, k1_3⟩ := hS.get (w.heap.size + 1) (b) (.tail _ (.tail _ (.tail _ (.tail _ (.tail _ (.tail _ (.head _)))))))
  obtain ⟨k2_0, k2_1, k2_2, k2_3⟩ := hS.get (w.heap.size + 1 + 1) (c) (.tail _ (.tail _ (.tail _ (.tail _ (.tail _ (.tail _ (.tail _ (.head _))))))))
  go_wp2_with fail
  refine (Hm _).mono ?_
  rintro e wq18 ⟨rfl, hbn⟩
  replace hS := hS.keep hbn
  clear hbn k0_0 k0_1 k0_2 k0_3 k1_0 k1_1 k1_2 k1_3 k2_0 k2_1 k2_2 k2_3
  go_upto_region 8 with fail
  replace hS := hS.put m
  dsimp only [put4] at hS
  generalize wq18.alloc (.cells #[.int .u64 (lim m 0), .int .u64 (lim m 1), .int .u64 (lim m 2), .int .u64 (lim m 3)] 24) = Wq19 at hS ⊢
  obtain ⟨k0_0, k0_1, k0_2, k0_3⟩ := hS.get (w.heap.size) (a) (.tail _ (.tail _ (.tail _ (.tail _ (.tail _ (.tail _ (.head _)))))))
  obtain ⟨k1_0, k1_1, k1_2, k1_3⟩ := hS.get (w.heap.size + 1) (b) (.tail _ (.tail _ (.tail _ (.tail _ (.tail _ (.tail _ (.tail _ (.head _))))))))
  obtain ⟨k2_0, k2_1, k2_2, k2_3⟩ := hS.get (w.heap.size + 1 + 1) (c) (.tail _ (.tail _ (.tail _ (.tail _ (.tail _ (.tail _ (.tail _ (.tail _ (.head _)))))))))
  go_wp2_with fail
  refine (Hn _).mono ?_
  rintro e wq20 ⟨rfl, hbn⟩
  replace hS := hS.keep hbn
  clear hbn k0_0 k0_1 k0_2 k0_3 k1_0 k1_1 k1_2 k1_3 k2_0 k2_1 k2_2 k2_3
  go_upto_region 9 with fail
  replace hS := hS.put n
  dsimp only [put4] at hS
  generalize wq20.alloc (.cells #[.int .u64 (lim n 0), .int .u64 (lim n 1), .int .u64 (lim n 2), .int .u64 (lim n 3)] 24) = Wq21 at hS ⊢
  obtain ⟨k0_0, k0_1, k0_2, k0_3⟩ := hS.get (w.heap.size + 1) (b) (.tail _ (.tail _ (.tail _ (.tail _ (.tail _ (.tail _ (.tail _ (.tail _ (.head _)))))))))
  obtain ⟨k1_0, k1_1, k1_2, k1_3⟩ := hS.get (wq8.heap.size) (0) (.tail _ (.tail _ (.tail _ (.tail _ (.tail _ (.tail _ (.head _)))))))
  go_upto_if 58 with fail
  clear k0_0 k0_1 k0_2 k0_3 k1_0 k1_1 k1_2 k1_3
  go_cut [7] from 56 to 120 (fun s7 wx => s7 = .bool true ∧ HeldL w wx [(wq20.heap.size, n), (wq18.heap.size, m), (wq16.heap.size, y), (wq14.heap.size, x), (wq12.heap.size, r), (wq10.heap.size, q), (wq8.heap.size, 0), (w.heap.size, a), (w.heap.size + 1, b), (w.heap.size + 1 + 1, c)])
  case first =>
    clear HC
    rcases HB with ⟨Eb, Eq, Er, Ex, Ey⟩ | ⟨Eb, B1, ⟨p1, B2, B3⟩, ⟨p2, B4, B5⟩, HY⟩
    · rw [Eb]
      obtain ⟨k0_0, k0_1, k0_2, k0_3⟩ := hS.get (wq10.heap.size) (q) (.tail _ (.tail _ (.tail _ (.tail _ (.tail _ (.head _))))))
      obtain ⟨k1_0, k1_1, k1_2, k1_3⟩ := hS.get (wq12.heap.size) (r) (.tail _ (.tail _ (.tail _ (.tail _ (.head _)))))
      obtain ⟨k2_0, k2_1, k2_2, k2_3⟩ := hS.get (wq14.heap.size) (x) (.tail _ (.tail _ (.tail _ (.head _))))
      obtain ⟨k3_0, k3_1, k3_2, k3_3⟩ := hS.get (wq16.heap.size) (y) (.tail _ (.tail _ (.head _)))
      obtain ⟨k4_0, k4_1, k4_2, k4_3⟩ := hS.get (wq8.heap.size) (0) (.tail _ (.tail _ (.tail _ (.tail _ (.tail _ (.tail _ (.head _)))))))
      go_wp2_with fail
      go_meet
      case rel => exact ⟨rfl, hS⟩
    · rw [Eb]
      clear Hq Hr Hx Hy Hm Hn H1 H2
      go_upto_region 11 with fail
      obtain ⟨k0_0, k0_1, k0_2, k0_3⟩ := hS.get (wq12.heap.size) (r) (.tail _ (.tail _ (.tail _ (.tail _ (.head _)))))
      obtain ⟨k1_0, k1_1, k1_2, k1_3⟩ := hS.get (w.heap.size + 1) (b) (.tail _ (.tail _ (.tail _ (.tail _ (.tail _ (.tail _ (.tail _ (.tail _ (.head _)))))))))
      go_wp2_with fail
      refine (B1 _).mono ?_
      rintro e wq22 ⟨rfl, hbn⟩
      replace hS := hS.keep hbn
      clear hbn k0_0 k0_1 k0_2 k0_3 k1_0 k1_1 k1_2 k1_3
      go_upto_region 12 with fail
      replace hS := hS.put 1
      dsimp only [put4] at hS
      generalize wq22.alloc (.cells #[.int .u64 (lim 1 0), .int .u64 (lim 1 1), .int .u64 (lim 1 2), .int .u64 (lim 1 3)] 24) = Wq23 at hS ⊢
      refine wp_region_held_drew (S := fun W => HeldL w W [(wq22.heap.size, 1), (wq20.heap.size, n), (wq18.heap.size, m), (wq16.heap.size, y), (wq14.heap.size, x), (wq12.heap.size, r), (wq10.heap.size, q), (wq8.heap.size, 0), (w.heap.size, a), (w.heap.size + 1, b), (w.heap.size + 1 + 1, c)]) (by kernel_rfl) hS.drew (fun hH => ?_)
      clear hS
      refine take_d (i := 0) (d := some 83) (v := .bool true) rfl rfl (by kernel_rfl) (by kernel_rfl) (by kernel_rfl) (fun _ _ _ h => h) (Or.inl ⟨by rfl, fun W hW => ?_⟩) hH ?_
      · clear hW hH
        go_simp
      simp only [Act.put, List.setIfInBounds_toArray, List.set_cons_zero, List.set_cons_succ]
      refine take_d (i := 1) (d := some 84) (v := .bool true) rfl rfl (by kernel_rfl) (by kernel_rfl) (by kernel_rfl) (fun _ _ _ h => h) (Or.inl ⟨by rfl, fun W hW => ?_⟩) hH ?_
      · clear hW hH
        go_simp
      simp only [Act.put, List.setIfInBounds_toArray, List.set_cons_zero, List.set_cons_succ]
      refine take_d (i := 2) (d := some 85) (v := .agg #[.int .u64 (lim 1 0), .int .u64 (lim 1 1), .int .u64 (lim 1 2), .int .u64 (lim 1 3)]) rfl rfl (by kernel_rfl) (by kernel_rfl) (by kernel_rfl) (fun _ _ _ h => h) (Or.inl ⟨by rfl, fun W hW => ?_⟩) hH ?_
      · obtain ⟨k0_0, k0_1, k0_2, k0_3⟩ := hW.get (wq22.heap.size) (1) (.head _)
        clear hW hH
        go_simp
      simp only [Act.put, List.setIfInBounds_toArray, List.set_cons_zero, List.set_cons_succ]
      refine wpAnyH_ready (rs := [3]) (by kernel_rfl) (by simp) ?_
      refine AllReadyH.cons rfl (fun K hK => ?_) AllReadyH.nil
      go_simp
      refine (t1 _).mono ?_
      rintro e wq24 ⟨rfl, hbn⟩
      go_wp2_with fail
      refine hK.out _ _ (HeldL.keep hH hbn) (fun hH => ?_)
      clear hbn hK K
      refine take_d (i := 4) (d := some 87) (v := .bool true) rfl rfl (by kernel_rfl) (by kernel_rfl) (by kernel_rfl) (fun _ _ _ h => h) (Or.inl ⟨by rfl, fun W hW => ?_⟩) hH ?_
      · clear hW hH
        go_simp
      simp only [Act.put, List.setIfInBounds_toArray, List.set_cons_zero, List.set_cons_succ]
      refine take_d (i := 5) (d := some 88) (v := .bool true) rfl rfl (by kernel_rfl) (by kernel_rfl) (by kernel_rfl) (fun _ _ _ h => h) (Or.inl ⟨by rfl, fun W hW => ?_⟩) hH ?_
      · clear hW hH
        go_simp
      simp only [Act.put, List.setIfInBounds_toArray, List.set_cons_zero, List.set_cons_succ]
      refine take_d (i := 6) (d := some 89) (v := .agg #[.int .u64 (lim q 0), .int .u64 (lim q 1), .int .u64 (lim q 2), .int .u64 (lim q 3)]) rfl rfl (by kernel_rfl) (by kernel_rfl) (by kernel_rfl) (fun _ _ _ h => h) (Or.inl ⟨by rfl, fun W hW => ?_⟩) hH ?_
      · obtain ⟨k0_0, k0_1, k0_2, k0_3⟩ := hW.get (wq10.heap.size) (q) (.tail _ (.tail _ (.tail _ (.tail _ (.tail _ (.tail _ (.head _)))))))
        clear hW hH
        go_simp
      simp only [Act.put, List.setIfInBounds_toArray, List.set_cons_zero, List.set_cons_succ]
      refine take_d (i := 7) (d := some 90) (v := .agg #[.int .u64 (lim b 0), .int .u64 (lim b 1), .int .u64 (lim b 2), .int .u64 (lim b 3)]) rfl rfl (by kernel_rfl) (by kernel_rfl) (by kernel_rfl) (fun _ _ _ h => h) (Or.inl ⟨by rfl, fun W hW => ?_⟩) hH ?_
      · obtain ⟨k0_0, k0_1, k0_2, k0_3⟩ := hW.get (w.heap.size + 1) (b) (.tail _ (.tail _ (.tail _ (.tail _ (.tail _ (.tail _ (.tail _ (.tail _ (.tail _ (.head _))))))))))
        clear hW hH
        go_simp
      simp only [Act.put, List.setIfInBounds_toArray, List.set_cons_zero, List.set_cons_succ]
      refine take_d (i := 9) (d := some 92) (v := .agg #[.int .u64 (lim r 0), .int .u64 (lim r 1), .int .u64 (lim r 2), .int .u64 (lim r 3)]) rfl rfl (by kernel_rfl) (by kernel_rfl) (by kernel_rfl) (fun _ _ _ h => h) (Or.inl ⟨by rfl, fun W hW => ?_⟩) hH ?_
      · obtain ⟨k0_0, k0_1, k0_2, k0_3⟩ := hW.get (wq12.heap.size) (r) (.tail _ (.tail _ (.tail _ (.tail _ (.tail _ (.head _))))))
        clear hW hH
        go_simp
      simp only [Act.put, List.setIfInBounds_toArray, List.set_cons_zero, List.set_cons_succ]
      refine take_d (i := 11) (d := some 94) (v := .agg #[.int .u64 (lim a 0), .int .u64 (lim a 1), .int .u64 (lim a 2), .int .u64 (lim a 3)]) rfl rfl (by kernel_rfl) (by kernel_rfl) (by kernel_rfl) (fun _ _ _ h => h) (Or.inl ⟨by rfl, fun W hW => ?_⟩) hH ?_
      · obtain ⟨k0_0, k0_1, k0_2, k0_3⟩ := hW.get (w.heap.size) (a) (.tail _ (.tail _ (.tail _ (.tail _ (.tail _ (.tail _ (.tail _ (.tail _ (.head _)))))))))
        clear hW hH
        go_simp
      simp only [Act.put, List.setIfInBounds_toArray, List.set_cons_zero, List.set_cons_succ]
      refine wpAnyH_ready (rs := [8]) (by kernel_rfl) (by simp) ?_
      refine AllReadyH.cons rfl (fun K hK => ?_) AllReadyH.nil
      go_simp
      refine (B2 _).mono ?_
      rintro e wq25 ⟨rfl, hbn⟩
      go_wp2_with fail
      refine hK.out _ _ (HeldL.keep hH hbn) (fun hH => ?_)
      clear hbn hK K
      refine wpAnyH_ready (rs := [10]) (by kernel_rfl) (by simp) ?_
      refine AllReadyH.cons rfl (fun K hK => ?_) AllReadyH.nil
      go_simp
      refine (B3 _).mono ?_
      rintro e wq26 ⟨rfl, hbn⟩
      go_wp2_with fail
      refine hK.out _ _ (HeldL.keep hH hbn) (fun hH => ?_)
      clear hbn hK K
      refine take_d (i := 12) (d := some 95) (v := .bool true) rfl rfl (by kernel_rfl) (by kernel_rfl) (by kernel_rfl) (fun _ _ _ h => h) (Or.inl ⟨by rfl, fun W hW => ?_⟩) hH ?_
      · clear hW hH
        go_simp
      simp only [Act.put, List.setIfInBounds_toArray, List.set_cons_zero, List.set_cons_succ]
      refine take_d (i := 13) (d := some 96) (v := .bool true) rfl rfl (by kernel_rfl) (by kernel_rfl) (by kernel_rfl) (fun _ _ _ h => h) (Or.inl ⟨by rfl, fun W hW => ?_⟩) hH ?_
      · clear hW hH
        go_simp
      simp only [Act.put, List.setIfInBounds_toArray, List.set_cons_zero, List.set_cons_succ]
      refine take_d (i := 14) (d := some 97) (v := .bool true) rfl rfl (by kernel_rfl) (by kernel_rfl) (by kernel_rfl) (fun _ _ _ h => h) (Or.inl ⟨by rfl, fun W hW => ?_⟩) hH ?_
      · clear hW hH
        go_simp
      simp only [Act.put, List.setIfInBounds_toArray, List.set_cons_zero, List.set_cons_succ]
      refine take_d (i := 15) (d := some 98) (v := .agg #[.int .u64 (lim x 0), .int .u64 (lim x 1), .int .u64 (lim x 2), .int .u64 (lim x 3)]) rfl rfl (by kernel_rfl) (by kernel_rfl) (by kernel_rfl) (fun _ _ _ h => h) (Or.inl ⟨by rfl, fun W hW => ?_⟩) hH ?_
      · obtain ⟨k0_0, k0_1, k0_2, k0_3⟩ := hW.get (wq14.heap.size) (x) (.tail _ (.tail _ (.tail _ (.tail _ (.head _)))))
        clear hW hH
        go_simp
      simp only [Act.put, List.setIfInBounds_toArray, List.set_cons_zero, List.set_cons_succ]
      refine take_d (i := 16) (d := some 99) (v := .agg #[.int .u64 (lim b 0), .int .u64 (lim b 1), .int .u64 (lim b 2), .int .u64 (lim b 3)]) rfl rfl (by kernel_rfl) (by kernel_rfl) (by kernel_rfl) (fun _ _ _ h => h) (Or.inl ⟨by rfl, fun W hW => ?_⟩) hH ?_
      · obtain ⟨k0_0, k0_1, k0_2, k0_3⟩ := hW.get (w.heap.size + 1) (b) (.tail _ (.tail _ (.tail _ (.tail _ (.tail _ (.tail _ (.tail _ (.tail _ (.tail _ (.head _))))))))))
        clear hW hH
        go_simp
      simp only [Act.put, List.setIfInBounds_toArray, List.set_cons_zero, List.set_cons_succ]
      refine take_d (i := 18) (d := some 101) (v := .agg #[.int .u64 (lim y 0), .int .u64 (lim y 1), .int .u64 (lim y 2), .int .u64 (lim y 3)]) rfl rfl (by kernel_rfl) (by kernel_rfl) (by kernel_rfl) (fun _ _ _ h => h) (Or.inl ⟨by rfl, fun W hW => ?_⟩) hH ?_
      · obtain ⟨k0_0, k0_1, k0_2, k0_3⟩ := hW.get (wq16.heap.size) (y) (.tail _ (.tail _ (.tail _ (.head _))))
        clear hW hH
        go_simp
      simp only [Act.put, List.setIfInBounds_toArray, List.set_cons_zero, List.set_cons_succ]
      refine take_d (i := 20) (d := some 103) (v := .agg #[.int .u64 (lim a 0), .int .u64 (lim a 1), .int .u64 (lim a 2), .int .u64 (lim a 3)]) rfl rfl (by kernel_rfl) (by kernel_rfl) (by kernel_rfl) (fun _ _ _ h => h) (Or.inl ⟨by rfl, fun W hW => ?_⟩) hH ?_
      · obtain ⟨k0_0, k0_1, k0_2, k0_3⟩ := hW.get (w.heap.size) (a) (.tail _ (.tail _ (.tail _ (.tail _ (.tail _ (.tail _ (.tail _ (.tail _ (.head _)))))))))
        clear hW hH
        go_simp
      simp only [Act.put, List.setIfInBounds_toArray, List.set_cons_zero, List.set_cons_succ]
      refine wpAnyH_ready (rs := [17]) (by kernel_rfl) (by simp) ?_
      refine AllReadyH.cons rfl (fun K hK => ?_) AllReadyH.nil
      go_simp
      refine (B4 _).mono ?_
      rintro e wq27 ⟨rfl, hbn⟩
      go_wp2_with fail
      refine hK.out _ _ (HeldL.keep hH hbn) (fun hH => ?_)
      clear hbn hK K
      refine wpAnyH_ready (rs := [19]) (by kernel_rfl) (by simp) ?_
      refine AllReadyH.cons rfl (fun K hK => ?_) AllReadyH.nil
      go_simp
      refine (B5 _).mono ?_
      rintro e wq28 ⟨rfl, hbn⟩
      go_wp2_with fail
      refine hK.out _ _ (HeldL.keep hH hbn) (fun hH => ?_)
      clear hbn hK K
      refine take_d (i := 21) (d := some 104) (v := .bool true) rfl rfl (by kernel_rfl) (by kernel_rfl) (by kernel_rfl) (fun _ _ _ h => h) (Or.inl ⟨by rfl, fun W hW => ?_⟩) hH ?_
      · clear hW hH
        go_simp
      simp only [Act.put, List.setIfInBounds_toArray, List.set_cons_zero, List.set_cons_succ]
      refine take_d (i := 22) (d := some 105) (v := .bool true) rfl rfl (by kernel_rfl) (by kernel_rfl) (by kernel_rfl) (fun _ _ _ h => h) (Or.inl ⟨by rfl, fun W hW => ?_⟩) hH ?_
      · clear hW hH
        go_simp
      simp only [Act.put, List.setIfInBounds_toArray, List.set_cons_zero, List.set_cons_succ]
      refine take_d (i := 23) (d := some 7) (v := .bool true) rfl rfl (by kernel_rfl) (by kernel_rfl) (by kernel_rfl) (fun _ _ _ h => h) (Or.inl ⟨by rfl, fun W hW => ?_⟩) hH ?_
      · clear hW hH
        go_simp
      simp only [Act.put, List.setIfInBounds_toArray, List.set_cons_zero, List.set_cons_succ]
      refine wpAnyH_done (by kernel_rfl) ?_ _
      have hS := hH
      clear hH
      clear B1 B2 B3 B4 B5
      go_upto_region 13 with fail
      rcases HY with Ey | ⟨Ey, s, D1, D2⟩
      · refine wp_region_held_drew (S := fun W => HeldL w W [(wq22.heap.size, 1), (wq20.heap.size, n), (wq18.heap.size, m), (wq16.heap.size, y), (wq14.heap.size, x), (wq12.heap.size, r), (wq10.heap.size, q), (wq8.heap.size, 0), (w.heap.size, a), (w.heap.size + 1, b), (w.heap.size + 1 + 1, c)]) (by kernel_rfl) hS.drew (fun hH => ?_)
        clear hS
        refine take_d (i := 0) (d := some 106) (v := .bool true) rfl rfl (by kernel_rfl) (by kernel_rfl) (by kernel_rfl) (fun _ _ _ h => h) (Or.inl ⟨by rfl, fun W hW => ?_⟩) hH ?_
        · clear hW hH
          go_simp
        simp only [Act.put, List.setIfInBounds_toArray, List.set_cons_zero, List.set_cons_succ]
        refine take_d (i := 1) (d := some 107) (v := .bool true) rfl rfl (by kernel_rfl) (by kernel_rfl) (by kernel_rfl) (fun _ _ _ h => h) (Or.inl ⟨by rfl, fun W hW => ?_⟩) hH ?_
        · clear hW hH
          go_simp
        simp only [Act.put, List.setIfInBounds_toArray, List.set_cons_zero, List.set_cons_succ]
        refine take_d (i := 2) (d := some 108) (v := .agg #[.int .u64 (lim y 0), .int .u64 (lim y 1), .int .u64 (lim y 2), .int .u64 (lim y 3)]) rfl rfl (by kernel_rfl) (by kernel_rfl) (by kernel_rfl) (fun _ _ _ h => h) (Or.inl ⟨by rfl, fun W hW => ?_⟩) hH ?_
        · obtain ⟨k0_0, k0_1, k0_2, k0_3⟩ := hW.get (wq16.heap.size) (y) (.tail _ (.tail _ (.tail _ (.head _))))
          clear hW hH
          go_simp
        simp only [Act.put, List.setIfInBounds_toArray, List.set_cons_zero, List.set_cons_succ]
        refine take_d (i := 3) (d := some 109) (v := .agg #[.int .u64 (lim 0 0), .int .u64 (lim 0 1), .int .u64 (lim 0 2), .int .u64 (lim 0 3)]) rfl rfl (by kernel_rfl) (by kernel_rfl) (by kernel_rfl) (fun _ _ _ h => h) (Or.inl ⟨by rfl, fun W hW => ?_⟩) hH ?_
        · obtain ⟨k0_0, k0_1, k0_2, k0_3⟩ := hW.get (wq8.heap.size) (0) (.tail _ (.tail _ (.tail _ (.tail _ (.tail _ (.tail _ (.tail _ (.head _))))))))
          clear hW hH
          go_simp
        simp only [Act.put, List.setIfInBounds_toArray, List.set_cons_zero, List.set_cons_succ]
        refine take_d (i := 4) (d := some 110) (v := .bool true) rfl rfl (by kernel_rfl) (by kernel_rfl) (by kernel_rfl) (fun _ _ _ h => h) (Or.inl ⟨by rfl, fun W hW => ?_⟩) hH ?_
        · clear hW hH
          go_simp
        simp only [Act.put, List.setIfInBounds_toArray, List.set_cons_zero, List.set_cons_succ]
        refine take_d (i := 5) (d := some 111) (v := .bool true) rfl rfl (by kernel_rfl) (by kernel_rfl) (by kernel_rfl) (fun _ _ _ h => h) (Or.inl ⟨by rfl, fun W hW => ?_⟩) hH ?_
        · clear hW hH
          go_simp
        simp only [Act.put, List.setIfInBounds_toArray, List.set_cons_zero, List.set_cons_succ]
        refine take_d (i := 6) (d := some 112) (v := undef) rfl rfl (by kernel_rfl) (by kernel_rfl) (by kernel_rfl) (fun _ _ _ h => h) (Or.inr ⟨by rfl, rfl⟩) hH ?_
        simp only [Act.put, List.setIfInBounds_toArray, List.set_cons_zero, List.set_cons_succ]
        refine take_d (i := 7) (d := some 113) (v := undef) rfl rfl (by kernel_rfl) (by kernel_rfl) (by kernel_rfl) (fun _ _ _ h => h) (Or.inr ⟨by rfl, rfl⟩) hH ?_
        simp only [Act.put, List.setIfInBounds_toArray, List.set_cons_zero, List.set_cons_succ]
        refine take_d (i := 8) (d := some 114) (v := undef) rfl rfl (by kernel_rfl) (by kernel_rfl) (by kernel_rfl) (fun _ _ _ h => h) (Or.inr ⟨by rfl, rfl⟩) hH ?_
        simp only [Act.put, List.setIfInBounds_toArray, List.set_cons_zero, List.set_cons_succ]
        refine take_d (i := 9) (d := some 115) (v := undef) rfl rfl (by kernel_rfl) (by kernel_rfl) (by kernel_rfl) (fun _ _ _ h => h) (Or.inr ⟨by rfl, rfl⟩) hH ?_
        simp only [Act.put, List.setIfInBounds_toArray, List.set_cons_zero, List.set_cons_succ]
        refine take_d (i := 10) (d := some 116) (v := undef) rfl rfl (by kernel_rfl) (by kernel_rfl) (by kernel_rfl) (fun _ _ _ h => h) (Or.inr ⟨by rfl, rfl⟩) hH ?_
        simp only [Act.put, List.setIfInBounds_toArray, List.set_cons_zero, List.set_cons_succ]
        refine take_d (i := 11) (d := some 117) (v := undef) rfl rfl (by kernel_rfl) (by kernel_rfl) (by kernel_rfl) (fun _ _ _ h => h) (Or.inr ⟨by rfl, rfl⟩) hH ?_
        simp only [Act.put, List.setIfInBounds_toArray, List.set_cons_zero, List.set_cons_succ]
        refine take_d (i := 12) (d := some 118) (v := undef) rfl rfl (by kernel_rfl) (by kernel_rfl) (by kernel_rfl) (fun _ _ _ h => h) (Or.inr ⟨by rfl, rfl⟩) hH ?_
        simp only [Act.put, List.setIfInBounds_toArray, List.set_cons_zero, List.set_cons_succ]
        refine take_d (i := 13) (d := some 119) (v := .bool true) rfl rfl (by kernel_rfl) (by kernel_rfl) (by kernel_rfl) (fun _ _ _ h => h) (Or.inl ⟨by rfl, fun W hW => ?_⟩) hH ?_
        · clear hW hH
          go_simp
        simp only [Act.put, List.setIfInBounds_toArray, List.set_cons_zero, List.set_cons_succ]
        refine take_d (i := 14) (d := some 120) (v := .bool true) rfl rfl (by kernel_rfl) (by kernel_rfl) (by kernel_rfl) (fun _ _ _ h => h) (Or.inl ⟨by rfl, fun W hW => ?_⟩) hH ?_
        · clear hW hH
          go_simp
        simp only [Act.put, List.setIfInBounds_toArray, List.set_cons_zero, List.set_cons_succ]
        refine take_d (i := 15) (d := some 7) (v := .bool true) rfl rfl (by kernel_rfl) (by kernel_rfl) (by kernel_rfl) (fun _ _ _ h => h) (Or.inl ⟨by rfl, fun W hW => ?_⟩) hH ?_
        · clear hW hH
          go_simp
        simp only [Act.put, List.setIfInBounds_toArray, List.set_cons_zero, List.set_cons_succ]
        refine wpAnyH_done (by kernel_rfl) ?_ _
        have hS := hH
        clear hH
        go_wp2_with fail
        go_meet
        case rel => exact ⟨rfl, hS.sub (fun p hp => List.mem_cons_of_mem _ hp)⟩
      · refine wp_region_held_drew (S := fun W => HeldL w W [(wq22.heap.size, 1), (wq20.heap.size, n), (wq18.heap.size, m), (wq16.heap.size, y), (wq14.heap.size, x), (wq12.heap.size, r), (wq10.heap.size, q), (wq8.heap.size, 0), (w.heap.size, a), (w.heap.size + 1, b), (w.heap.size + 1 + 1, c)]) (by kernel_rfl) hS.drew (fun hH => ?_)
        clear hS
        refine take_d (i := 0) (d := some 106) (v := .bool true) rfl rfl (by kernel_rfl) (by kernel_rfl) (by kernel_rfl) (fun _ _ _ h => h) (Or.inl ⟨by rfl, fun W hW => ?_⟩) hH ?_
        · clear hW hH
          go_simp
        simp only [Act.put, List.setIfInBounds_toArray, List.set_cons_zero, List.set_cons_succ]
        refine take_d (i := 1) (d := some 107) (v := .bool true) rfl rfl (by kernel_rfl) (by kernel_rfl) (by kernel_rfl) (fun _ _ _ h => h) (Or.inl ⟨by rfl, fun W hW => ?_⟩) hH ?_
        · clear hW hH
          go_simp
        simp only [Act.put, List.setIfInBounds_toArray, List.set_cons_zero, List.set_cons_succ]
        refine take_d (i := 2) (d := some 108) (v := .agg #[.int .u64 (lim y 0), .int .u64 (lim y 1), .int .u64 (lim y 2), .int .u64 (lim y 3)]) rfl rfl (by kernel_rfl) (by kernel_rfl) (by kernel_rfl) (fun _ _ _ h => h) (Or.inl ⟨by rfl, fun W hW => ?_⟩) hH ?_
        · obtain ⟨k0_0, k0_1, k0_2, k0_3⟩ := hW.get (wq16.heap.size) (y) (.tail _ (.tail _ (.tail _ (.head _))))
          clear hW hH
          go_simp
        simp only [Act.put, List.setIfInBounds_toArray, List.set_cons_zero, List.set_cons_succ]
        refine take_d (i := 3) (d := some 109) (v := .agg #[.int .u64 (lim 0 0), .int .u64 (lim 0 1), .int .u64 (lim 0 2), .int .u64 (lim 0 3)]) rfl rfl (by kernel_rfl) (by kernel_rfl) (by kernel_rfl) (fun _ _ _ h => h) (Or.inl ⟨by rfl, fun W hW => ?_⟩) hH ?_
        · obtain ⟨k0_0, k0_1, k0_2, k0_3⟩ := hW.get (wq8.heap.size) (0) (.tail _ (.tail _ (.tail _ (.tail _ (.tail _ (.tail _ (.tail _ (.head _))))))))
          clear hW hH
          go_simp
        simp only [Act.put, List.setIfInBounds_toArray, List.set_cons_zero, List.set_cons_succ]
        refine take_d (i := 4) (d := some 110) (v := .bool false) rfl rfl (by kernel_rfl) (by kernel_rfl) (by kernel_rfl) (fun _ _ _ h => h) (Or.inl ⟨by rfl, fun W hW => ?_⟩) hH ?_
        · clear hW hH
          go_simp
        simp only [Act.put, List.setIfInBounds_toArray, List.set_cons_zero, List.set_cons_succ]
        refine take_d (i := 5) (d := some 111) (v := .bool false) rfl rfl (by kernel_rfl) (by kernel_rfl) (by kernel_rfl) (fun _ _ _ h => h) (Or.inl ⟨by rfl, fun W hW => ?_⟩) hH ?_
        · clear hW hH
          go_simp
        simp only [Act.put, List.setIfInBounds_toArray, List.set_cons_zero, List.set_cons_succ]
        refine take_d (i := 6) (d := some 112) (v := .agg #[.int .u64 (lim y 0), .int .u64 (lim y 1), .int .u64 (lim y 2), .int .u64 (lim y 3)]) rfl rfl (by kernel_rfl) (by kernel_rfl) (by kernel_rfl) (fun _ _ _ h => h) (Or.inl ⟨by rfl, fun W hW => ?_⟩) hH ?_
        · obtain ⟨k0_0, k0_1, k0_2, k0_3⟩ := hW.get (wq16.heap.size) (y) (.tail _ (.tail _ (.tail _ (.head _))))
          clear hW hH
          go_simp
        simp only [Act.put, List.setIfInBounds_toArray, List.set_cons_zero, List.set_cons_succ]
        refine take_d (i := 7) (d := some 113) (v := .agg #[.int .u64 (lim 0 0), .int .u64 (lim 0 1), .int .u64 (lim 0 2), .int .u64 (lim 0 3)]) rfl rfl (by kernel_rfl) (by kernel_rfl) (by kernel_rfl) (fun _ _ _ h => h) (Or.inl ⟨by rfl, fun W hW => ?_⟩) hH ?_
        · obtain ⟨k0_0, k0_1, k0_2, k0_3⟩ := hW.get (wq8.heap.size) (0) (.tail _ (.tail _ (.tail _ (.tail _ (.tail _ (.tail _ (.tail _ (.head _))))))))
          clear hW hH
          go_simp
        simp only [Act.put, List.setIfInBounds_toArray, List.set_cons_zero, List.set_cons_succ]
        refine take_d (i := 9) (d := some 115) (v := .agg #[.int .u64 (lim a 0), .int .u64 (lim a 1), .int .u64 (lim a 2), .int .u64 (lim a 3)]) rfl rfl (by kernel_rfl) (by kernel_rfl) (by kernel_rfl) (fun _ _ _ h => h) (Or.inl ⟨by rfl, fun W hW => ?_⟩) hH ?_
        · obtain ⟨k0_0, k0_1, k0_2, k0_3⟩ := hW.get (w.heap.size) (a) (.tail _ (.tail _ (.tail _ (.tail _ (.tail _ (.tail _ (.tail _ (.tail _ (.head _)))))))))
          clear hW hH
          go_simp
        simp only [Act.put, List.setIfInBounds_toArray, List.set_cons_zero, List.set_cons_succ]
        refine take_d (i := 10) (d := some 116) (v := .agg #[.int .u64 (lim 0 0), .int .u64 (lim 0 1), .int .u64 (lim 0 2), .int .u64 (lim 0 3)]) rfl rfl (by kernel_rfl) (by kernel_rfl) (by kernel_rfl) (fun _ _ _ h => h) (Or.inl ⟨by rfl, fun W hW => ?_⟩) hH ?_
        · obtain ⟨k0_0, k0_1, k0_2, k0_3⟩ := hW.get (wq8.heap.size) (0) (.tail _ (.tail _ (.tail _ (.tail _ (.tail _ (.tail _ (.tail _ (.head _))))))))
          clear hW hH
          go_simp
        simp only [Act.put, List.setIfInBounds_toArray, List.set_cons_zero, List.set_cons_succ]
        refine wpAnyH_ready (rs := [8]) (by kernel_rfl) (by simp) ?_
        refine AllReadyH.cons rfl (fun K hK => ?_) AllReadyH.nil
        go_simp
        refine (D1 _).mono ?_
        rintro e wq29 ⟨rfl, hbn⟩
        go_wp2_with fail
        refine hK.out _ _ (HeldL.keep hH hbn) (fun hH => ?_)
        clear hbn hK K
        refine wpAnyH_ready (rs := [11]) (by kernel_rfl) (by simp) ?_
        refine AllReadyH.cons rfl (fun K hK => ?_) AllReadyH.nil
        go_simp
        refine (D2 _).mono ?_
        rintro e wq30 ⟨rfl, hbn⟩
        go_wp2_with fail
        refine hK.out _ _ (HeldL.keep hH hbn) (fun hH => ?_)
        clear hbn hK K
        refine take_d (i := 12) (d := some 118) (v := .bool true) rfl rfl (by kernel_rfl) (by kernel_rfl) (by kernel_rfl) (fun _ _ _ h => h) (Or.inl ⟨by rfl, fun W hW => ?_⟩) hH ?_
        · clear hW hH
          go_simp
        simp only [Act.put, List.setIfInBounds_toArray, List.set_cons_zero, List.set_cons_succ]
        refine take_d (i := 13) (d := some 119) (v := .bool true) rfl rfl (by kernel_rfl) (by kernel_rfl) (by kernel_rfl) (fun _ _ _ h => h) (Or.inl ⟨by rfl, fun W hW => ?_⟩) hH ?_
        · clear hW hH
          go_simp
        simp only [Act.put, List.setIfInBounds_toArray, List.set_cons_zero, List.set_cons_succ]
        refine take_d (i := 14) (d := some 120) (v := .bool true) rfl rfl (by kernel_rfl) (by kernel_rfl) (by kernel_rfl) (fun _ _ _ h => h) (Or.inl ⟨by rfl, fun W hW => ?_⟩) hH ?_
        · clear hW hH
          go_simp
        simp only [Act.put, List.setIfInBounds_toArray, List.set_cons_zero, List.set_cons_succ]
        refine take_d (i := 15) (d := some 7) (v := .bool true) rfl rfl (by kernel_rfl) (by kernel_rfl) (by kernel_rfl) (fun _ _ _ h => h) (Or.inl ⟨by rfl, fun W hW => ?_⟩) hH ?_
        · clear hW hH
          go_simp
        simp only [Act.put, List.setIfInBounds_toArray, List.set_cons_zero, List.set_cons_succ]
        refine wpAnyH_done (by kernel_rfl) ?_ _
        have hS := hH
        clear hH
        go_wp2_with fail
        go_meet
        case rel => exact ⟨rfl, hS.sub (fun p hp => List.mem_cons_of_mem _ hp)⟩
  case rest =>
    clear HB hS Hq Hr Hx Hy Hm Hn H1 H2
    obtain ⟨rfl, hS⟩ := hcut
    go_upto_region 14 with fail
    obtain ⟨k0_0, k0_1, k0_2, k0_3⟩ := hS.get (w.heap.size + 1 + 1) (c) (.tail _ (.tail _ (.tail _ (.tail _ (.tail _ (.tail _ (.tail _ (.tail _ (.tail _ (.head _))))))))))
    obtain ⟨k1_0, k1_1, k1_2, k1_3⟩ := hS.get (wq8.heap.size) (0) (.tail _ (.tail _ (.tail _ (.tail _ (.tail _ (.tail _ (.head _)))))))
    go_upto_if 123 with fail
    clear k0_0 k0_1 k0_2 k0_3 k1_0 k1_1 k1_2 k1_3
    rcases HC with ⟨Ec, Em, En⟩ | ⟨Ec, C1, C2, ra, rb, d, b1, z, C3, C4, C5, C6, C7, C8, C9, C10, C11⟩
    · rw [Ec]
      obtain ⟨k0_0, k0_1, k0_2, k0_3⟩ := hS.get (wq18.heap.size) (m) (.tail _ (.head _))
      obtain ⟨k1_0, k1_1, k1_2, k1_3⟩ := hS.get (wq20.heap.size) (n) (.head _)
      obtain ⟨k2_0, k2_1, k2_2, k2_3⟩ := hS.get (wq8.heap.size) (0) (.tail _ (.tail _ (.tail _ (.tail _ (.tail _ (.tail _ (.head _)))))))
      go_wp2
      go_ret
      exact ⟨rfl, hS.b⟩
    · rw [Ec]
      go_upto_region 16 with fail
      obtain ⟨k0_0, k0_1, k0_2, k0_3⟩ := hS.get (wq18.heap.size) (m) (.tail _ (.head _))
      obtain ⟨k1_0, k1_1, k1_2, k1_3⟩ := hS.get (w.heap.size + 1 + 1) (c) (.tail _ (.tail _ (.tail _ (.tail _ (.tail _ (.tail _ (.tail _ (.tail _ (.tail _ (.head _))))))))))
      go_wp2_with fail
      refine (C1 _).mono ?_
      rintro e wq31 ⟨rfl, hbn⟩
      replace hS := hS.keep hbn
      clear hbn k0_0 k0_1 k0_2 k0_3 k1_0 k1_1 k1_2 k1_3
      go_upto_region 17 with fail
      replace hS := hS.put 1
      dsimp only [put4] at hS
      generalize wq31.alloc (.cells #[.int .u64 (lim 1 0), .int .u64 (lim 1 1), .int .u64 (lim 1 2), .int .u64 (lim 1 3)] 24) = Wq32 at hS ⊢
      obtain ⟨k0_0, k0_1, k0_2, k0_3⟩ := hS.get (wq20.heap.size) (n) (.tail _ (.head _))
      obtain ⟨k1_0, k1_1, k1_2, k1_3⟩ := hS.get (w.heap.size + 1 + 1) (c) (.tail _ (.tail _ (.tail _ (.tail _ (.tail _ (.tail _ (.tail _ (.tail _ (.tail _ (.tail _ (.head _)))))))))))
      go_wp2_with fail
      refine (C2 _).mono ?_
      rintro e wq33 ⟨rfl, hbn⟩
      replace hS := hS.keep hbn
      clear hbn k0_0 k0_1 k0_2 k0_3 k1_0 k1_1 k1_2 k1_3
      go_upto_region 18 with fail
      replace hS := hS.put 1
      dsimp only [put4] at hS
      generalize wq33.alloc (.cells #[.int .u64 (lim 1 0), .int .u64 (lim 1 1), .int .u64 (lim 1 2), .int .u64 (lim 1 3)] 24) = Wq34 at hS ⊢
      obtain ⟨k0_0, k0_1, k0_2, k0_3⟩ := hS.get (w.heap.size) (a) (.tail _ (.tail _ (.tail _ (.tail _ (.tail _ (.tail _ (.tail _ (.tail _ (.tail _ (.head _))))))))))
      obtain ⟨k1_0, k1_1, k1_2, k1_3⟩ := hS.get (w.heap.size + 1 + 1) (c) (.tail _ (.tail _ (.tail _ (.tail _ (.tail _ (.tail _ (.tail _ (.tail _ (.tail _ (.tail _ (.tail _ (.head _))))))))))))
      go_wp2_with fail
      refine (C3 _).mono ?_
      rintro e wq35 ⟨rfl, hbn⟩
      replace hS := hS.keep hbn
      clear hbn k0_0 k0_1 k0_2 k0_3 k1_0 k1_1 k1_2 k1_3
      go_upto_region 19 with fail
      replace hS := hS.put ra
      dsimp only [put4] at hS
      generalize wq35.alloc (.cells #[.int .u64 (lim ra 0), .int .u64 (lim ra 1), .int .u64 (lim ra 2), .int .u64 (lim ra 3)] 24) = Wq36 at hS ⊢
      obtain ⟨k0_0, k0_1, k0_2, k0_3⟩ := hS.get (w.heap.size + 1) (b) (.tail _ (.tail _ (.tail _ (.tail _ (.tail _ (.tail _ (.tail _ (.tail _ (.tail _ (.tail _ (.tail _ (.head _))))))))))))
      obtain ⟨k1_0, k1_1, k1_2, k1_3⟩ := hS.get (w.heap.size + 1 + 1) (c) (.tail _ (.tail _ (.tail _ (.tail _ (.tail _ (.tail _ (.tail _ (.tail _ (.tail _ (.tail _ (.tail _ (.tail _ (.head _)))))))))))))
      go_wp2_with fail
      refine (C4 _).mono ?_
      rintro e wq37 ⟨rfl, hbn⟩
      replace hS := hS.keep hbn
      clear hbn k0_0 k0_1 k0_2 k0_3 k1_0 k1_1 k1_2 k1_3
      go_upto_region 20 with fail
      replace hS := hS.put rb
      dsimp only [put4] at hS
      generalize wq37.alloc (.cells #[.int .u64 (lim rb 0), .int .u64 (lim rb 1), .int .u64 (lim rb 2), .int .u64 (lim rb 3)] 24) = Wq38 at hS ⊢
      go_cut [20] from 147 to 152 (fun s wx => ∃ B, s = .pointer (some ⟨B, 0, none⟩) ∧ HeldL w wx ((B, ra) :: [(wq37.heap.size, rb), (wq35.heap.size, ra), (wq33.heap.size, 1), (wq31.heap.size, 1), (wq20.heap.size, n), (wq18.heap.size, m), (wq16.heap.size, y), (wq14.heap.size, x), (wq12.heap.size, r), (wq10.heap.size, q), (wq8.heap.size, 0), (w.heap.size, a), (w.heap.size + 1, b), (w.heap.size + 1 + 1, c)]))
      case first =>
        refine wp_region_held_drew (S := fun W => Below Wq38.heap.size Wq38 W) (by kernel_rfl) (Below.refl _ _).drew (fun hH => ?_)
        refine take_d (i := 0) (d := some 147) (v := .agg #[.int .u64 (lim n 0), .int .u64 (lim n 1), .int .u64 (lim n 2), .int .u64 (lim n 3)]) rfl rfl (by kernel_rfl) (by kernel_rfl) (by kernel_rfl) (fun _ _ _ h => h) (Or.inl ⟨by rfl, fun W hW => ?_⟩) hH ?_
        · obtain ⟨k0_0, k0_1, k0_2, k0_3⟩ := (hS.keep hW).get (wq20.heap.size) (n) (.tail _ (.tail _ (.tail _ (.tail _ (.head _)))))
          clear hW hH
          go_simp
        simp only [Act.put, List.setIfInBounds_toArray, List.set_cons_zero, List.set_cons_succ]
        refine take_d (i := 1) (d := some 148) (v := .agg #[.int .u64 (lim c 0), .int .u64 (lim c 1), .int .u64 (lim c 2), .int .u64 (lim c 3)]) rfl rfl (by kernel_rfl) (by kernel_rfl) (by kernel_rfl) (fun _ _ _ h => h) (Or.inl ⟨by rfl, fun W hW => ?_⟩) hH ?_
        · obtain ⟨k0_0, k0_1, k0_2, k0_3⟩ := (hS.keep hW).get (w.heap.size + 1 + 1) (c) (.tail _ (.tail _ (.tail _ (.tail _ (.tail _ (.tail _ (.tail _ (.tail _ (.tail _ (.tail _ (.tail _ (.tail _ (.tail _ (.head _))))))))))))))
          clear hW hH
          go_simp
        simp only [Act.put, List.setIfInBounds_toArray, List.set_cons_zero, List.set_cons_succ]
        refine take_d (i := 2) (d := some 149) (v := .agg #[.int .u64 (lim rb 0), .int .u64 (lim rb 1), .int .u64 (lim rb 2), .int .u64 (lim rb 3)]) rfl rfl (by kernel_rfl) (by kernel_rfl) (by kernel_rfl) (fun _ _ _ h => h) (Or.inl ⟨by rfl, fun W hW => ?_⟩) hH ?_
        · obtain ⟨k0_0, k0_1, k0_2, k0_3⟩ := (hS.keep hW).get (wq37.heap.size) (rb) (.head _)
          clear hW hH
          go_simp
        simp only [Act.put, List.setIfInBounds_toArray, List.set_cons_zero, List.set_cons_succ]
        refine take_d (i := 4) (d := some 151) (v := .agg #[.int .u64 (lim c 0), .int .u64 (lim c 1), .int .u64 (lim c 2), .int .u64 (lim c 3)]) rfl rfl (by kernel_rfl) (by kernel_rfl) (by kernel_rfl) (fun _ _ _ h => h) (Or.inl ⟨by rfl, fun W hW => ?_⟩) hH ?_
        · obtain ⟨k0_0, k0_1, k0_2, k0_3⟩ := (hS.keep hW).get (w.heap.size + 1 + 1) (c) (.tail _ (.tail _ (.tail _ (.tail _ (.tail _ (.tail _ (.tail _ (.tail _ (.tail _ (.tail _ (.tail _ (.tail _ (.tail _ (.head _))))))))))))))
          clear hW hH
          go_simp
        simp only [Act.put, List.setIfInBounds_toArray, List.set_cons_zero, List.set_cons_succ]
        generalize Wq38.drew = Wq39 at hH ⊢
        have hwa := hH.size
        refine wpAnyH_ready (rs := [3, 6]) (by kernel_rfl) (by simp) ?_
        refine (AllReadyH.cons rfl (fun K hK => ?_) (AllReadyH.cons rfl (fun K hK => ?_) AllReadyH.nil))
        · go_simp
          refine (C5 _).mono ?_
          rintro e wq40 ⟨rfl, hbn⟩
          go_wp2_with fail
          refine hK.out _ _ (below_over0 hH hbn) (fun hH => ?_)
          have hz_wq40 := hbn.size
          clear hbn hK K
          refine wpAnyH_ready (rs := [5, 6]) (by kernel_rfl) (by simp) ?_
          refine (AllReadyH.cons rfl (fun K hK => ?_) (AllReadyH.cons rfl (fun K hK => ?_) AllReadyH.nil))
          · go_simp
            refine (C6 _).mono ?_
            rintro e wq41 ⟨rfl, hbn⟩
            go_wp2_with fail
            refine hK.out _ _ (below_over0 hH hbn) (fun hH => ?_)
            have hz_wq41 := hbn.size
            clear hbn hK K
            refine wpAnyH_ready (rs := [6]) (by kernel_rfl) (by simp) ?_
            refine (AllReadyH.cons rfl (fun K hK => ?_) AllReadyH.nil)
            · go_simp
              have hbn := below1 wq41 (.cells #[.int .u64 0, .int .u64 0, .int .u64 0, .int .u64 0] 24)
              refine hK.out _ _ (below_over0 hH hbn) (fun hH => ?_)
              have R5 := row4_new wq41 0 0 0 0
              have hz_Wnq42 : wq41.heap.size + 1 ≤ (wq41.alloc (.cells #[.int .u64 0, .int .u64 0, .int .u64 0, .int .u64 0] 24)).heap.size := by simp
              clear hbn hK K
              generalize wq41.alloc (.cells #[.int .u64 0, .int .u64 0, .int .u64 0, .int .u64 0] 24) = Wnq42 at hH hz_Wnq42 R5 ⊢
              have hw_Wnq42 := hH.size
              obtain ⟨e0, e1, e2, e3, ef⟩ := id R5
              have ef0 := ef 0 (by decide); have ef1 := ef 1 (by decide); have ef2 := ef 2 (by decide); have ef3 := ef 3 (by decide)
              clear ef
              have ho : Only Wnq42 ((((Wnq42.setCell ⟨wq41.heap.size, 0, none⟩ (.int .u64 (lim ra 0))).setCell ⟨wq41.heap.size, 1, none⟩ (.int .u64 (lim ra 1))).setCell ⟨wq41.heap.size, 2, none⟩ (.int .u64 (lim ra 2))).setCell ⟨wq41.heap.size, 3, none⟩ (.int .u64 (lim ra 3))) (wq41.heap.size) 0 4 := ((((Only.refl _ _ _ _).setCell _ _ (by omega) (by omega)).setCell _ _ (by omega) (by omega)).setCell _ _ (by omega) (by omega)).setCell _ _ (by omega) (by omega)
              replace R5 : Row4 ((((Wnq42.setCell ⟨wq41.heap.size, 0, none⟩ (.int .u64 (lim ra 0))).setCell ⟨wq41.heap.size, 1, none⟩ (.int .u64 (lim ra 1))).setCell ⟨wq41.heap.size, 2, none⟩ (.int .u64 (lim ra 2))).setCell ⟨wq41.heap.size, 3, none⟩ (.int .u64 (lim ra 3))) (wq41.heap.size) (lim ra 0) (lim ra 1) (lim ra 2) (lim ra 3) := ⟨by simp [go_sem, e0], by simp [go_sem, e1], by simp [go_sem, e2], by simp [go_sem, e3], fun j hj => (ho.frozen j).trans (R5.fz j hj)⟩
              have hB9 := hH.trans (ho.below (by omega))
              have hz9 := Nat.le_of_eq ho.size.symm
              clear ho
              refine wpAnyH_ready (rs := [7]) (by kernel_rfl) (by simp) ?_
              refine AllReadyH.cons rfl (fun K hK => ?_) AllReadyH.nil
              go_simp
              refine hK.out _ _ hB9 (fun hH => ?_)
              clear hK K e0 e1 e2 e3 ef0 ef1 ef2 ef3 hB9
              generalize ((((Wnq42.setCell ⟨wq41.heap.size, 0, none⟩ (.int .u64 (lim ra 0))).setCell ⟨wq41.heap.size, 1, none⟩ (.int .u64 (lim ra 1))).setCell ⟨wq41.heap.size, 2, none⟩ (.int .u64 (lim ra 2))).setCell ⟨wq41.heap.size, 3, none⟩ (.int .u64 (lim ra 3))) = Wyq43 at hH R5 hz9 ⊢
              refine wpAnyH_done (by kernel_rfl) ?_ _
              have hb5 : wq41.heap.size < Wyq43.heap.size := by omega
              obtain ⟨e0, e1, e2, e3, -⟩ := R5
              have hS5 := (hS.keep hH).cons (wq41.heap.size) (ra) ⟨e0, e1, e2, e3⟩ hb5
              clear e0 e1 e2 e3
              go_wp2_with fail
              go_meet
              case rel => exact ⟨_, rfl, hS5⟩
          · go_simp
            have hbn := below1 wq40 (.cells #[.int .u64 0, .int .u64 0, .int .u64 0, .int .u64 0] 24)
            refine hK.out _ _ (below_over0 hH hbn) (fun hH => ?_)
            have R5 := row4_new wq40 0 0 0 0
            have hz_Wnq44 : wq40.heap.size + 1 ≤ (wq40.alloc (.cells #[.int .u64 0, .int .u64 0, .int .u64 0, .int .u64 0] 24)).heap.size := by simp
            clear hbn hK K
            generalize wq40.alloc (.cells #[.int .u64 0, .int .u64 0, .int .u64 0, .int .u64 0] 24) = Wnq44 at hH hz_Wnq44 R5 ⊢
            have hw_Wnq44 := hH.size
            refine wpAnyH_ready (rs := [5]) (by kernel_rfl) (by simp) ?_
            refine (AllReadyH.cons rfl (fun K hK => ?_) AllReadyH.nil)
            · go_simp
              refine (C6 _).mono ?_
              rintro e wq45 ⟨rfl, hbn⟩
              go_wp2_with fail
              refine hK.out _ _ (below_over0 hH hbn) (fun hH => ?_)
              replace R5 := R5.below hbn (by omega)
              have hz_wq45 := hbn.size
              clear hbn hK K
              obtain ⟨e0, e1, e2, e3, ef⟩ := id R5
              have ef0 := ef 0 (by decide); have ef1 := ef 1 (by decide); have ef2 := ef 2 (by decide); have ef3 := ef 3 (by decide)
              clear ef
              have ho : Only wq45 ((((wq45.setCell ⟨wq40.heap.size, 0, none⟩ (.int .u64 (lim ra 0))).setCell ⟨wq40.heap.size, 1, none⟩ (.int .u64 (lim ra 1))).setCell ⟨wq40.heap.size, 2, none⟩ (.int .u64 (lim ra 2))).setCell ⟨wq40.heap.size, 3, none⟩ (.int .u64 (lim ra 3))) (wq40.heap.size) 0 4 := ((((Only.refl _ _ _ _).setCell _ _ (by omega) (by omega)).setCell _ _ (by omega) (by omega)).setCell _ _ (by omega) (by omega)).setCell _ _ (by omega) (by omega)
              replace R5 : Row4 ((((wq45.setCell ⟨wq40.heap.size, 0, none⟩ (.int .u64 (lim ra 0))).setCell ⟨wq40.heap.size, 1, none⟩ (.int .u64 (lim ra 1))).setCell ⟨wq40.heap.size, 2, none⟩ (.int .u64 (lim ra 2))).setCell ⟨wq40.heap.size, 3, none⟩ (.int .u64 (lim ra 3))) (wq40.heap.size) (lim ra 0) (lim ra 1) (lim ra 2) (lim ra 3) := ⟨by simp [go_sem, e0], by simp [go_sem, e1], by simp [go_sem, e2], by simp [go_sem, e3], fun j hj => (ho.frozen j).trans (R5.fz j hj)⟩
              have hB9 := hH.trans (ho.below (by omega))
              have hz9 := Nat.le_of_eq ho.size.symm
              clear ho
              refine wpAnyH_ready (rs := [7]) (by kernel_rfl) (by simp) ?_
              refine AllReadyH.cons rfl (fun K hK => ?_) AllReadyH.nil
              go_simp
              refine hK.out _ _ hB9 (fun hH => ?_)
              clear hK K e0 e1 e2 e3 ef0 ef1 ef2 ef3 hB9
              generalize ((((wq45.setCell ⟨wq40.heap.size, 0, none⟩ (.int .u64 (lim ra 0))).setCell ⟨wq40.heap.size, 1, none⟩ (.int .u64 (lim ra 1))).setCell ⟨wq40.heap.size, 2, none⟩ (.int .u64 (lim ra 2))).setCell ⟨wq40.heap.size, 3, none⟩ (.int .u64 (lim ra 3))) = Wyq46 at hH R5 hz9 ⊢
              refine wpAnyH_done (by kernel_rfl) ?_ _
              have hb5 : wq40.heap.size < Wyq46.heap.size := by omega
              obtain ⟨e0, e1, e2, e3, -⟩ := R5
              have hS5 := (hS.keep hH).cons (wq40.heap.size) (ra) ⟨e0, e1, e2, e3⟩ hb5
              clear e0 e1 e2 e3
              go_wp2_with fail
              go_meet
              case rel => exact ⟨_, rfl, hS5⟩
        · go_simp
          have hbn := below1 Wq39 (.cells #[.int .u64 0, .int .u64 0, .int .u64 0, .int .u64 0] 24)
          refine hK.out _ _ (below_over0 hH hbn) (fun hH => ?_)
          have R5 := row4_new Wq39 0 0 0 0
          have hz_Wnq47 : Wq39.heap.size + 1 ≤ (Wq39.alloc (.cells #[.int .u64 0, .int .u64 0, .int .u64 0, .int .u64 0] 24)).heap.size := by simp
          clear hbn hK K
          generalize Wq39.alloc (.cells #[.int .u64 0, .int .u64 0, .int .u64 0, .int .u64 0] 24) = Wnq47 at hH hz_Wnq47 R5 ⊢
          have hw_Wnq47 := hH.size
          refine wpAnyH_ready (rs := [3]) (by kernel_rfl) (by simp) ?_
          refine (AllReadyH.cons rfl (fun K hK => ?_) AllReadyH.nil)
          · go_simp
            refine (C5 _).mono ?_
            rintro e wq48 ⟨rfl, hbn⟩
            go_wp2_with fail
            refine hK.out _ _ (below_over0 hH hbn) (fun hH => ?_)
            replace R5 := R5.below hbn (by omega)
            have hz_wq48 := hbn.size
            clear hbn hK K
            refine wpAnyH_ready (rs := [5]) (by kernel_rfl) (by simp) ?_
            refine (AllReadyH.cons rfl (fun K hK => ?_) AllReadyH.nil)
            · go_simp
              refine (C6 _).mono ?_
              rintro e wq49 ⟨rfl, hbn⟩
              go_wp2_with fail
              refine hK.out _ _ (below_over0 hH hbn) (fun hH => ?_)
              replace R5 := R5.below hbn (by omega)
              have hz_wq49 := hbn.size
              clear hbn hK K
              obtain ⟨e0, e1, e2, e3, ef⟩ := id R5
              have ef0 := ef 0 (by decide); have ef1 := ef 1 (by decide); have ef2 := ef 2 (by decide); have ef3 := ef 3 (by decide)
              clear ef
              have ho : Only wq49 ((((wq49.setCell ⟨Wq39.heap.size, 0, none⟩ (.int .u64 (lim ra 0))).setCell ⟨Wq39.heap.size, 1, none⟩ (.int .u64 (lim ra 1))).setCell ⟨Wq39.heap.size, 2, none⟩ (.int .u64 (lim ra 2))).setCell ⟨Wq39.heap.size, 3, none⟩ (.int .u64 (lim ra 3))) (Wq39.heap.size) 0 4 := ((((Only.refl _ _ _ _).setCell _ _ (by omega) (by omega)).setCell _ _ (by omega) (by omega)).setCell _ _ (by omega) (by omega)).setCell _ _ (by omega) (by omega)
              replace R5 : Row4 ((((wq49.setCell ⟨Wq39.heap.size, 0, none⟩ (.int .u64 (lim ra 0))).setCell ⟨Wq39.heap.size, 1, none⟩ (.int .u64 (lim ra 1))).setCell ⟨Wq39.heap.size, 2, none⟩ (.int .u64 (lim ra 2))).setCell ⟨Wq39.heap.size, 3, none⟩ (.int .u64 (lim ra 3))) (Wq39.heap.size) (lim ra 0) (lim ra 1) (lim ra 2) (lim ra 3) := ⟨by simp [go_sem, e0], by simp [go_sem, e1], by simp [go_sem, e2], by simp [go_sem, e3], fun j hj => (ho.frozen j).trans (R5.fz j hj)⟩
              have hB9 := hH.trans (ho.below (by omega))
              have hz9 := Nat.le_of_eq ho.size.symm
              clear ho
              refine wpAnyH_ready (rs := [7]) (by kernel_rfl) (by simp) ?_
              refine AllReadyH.cons rfl (fun K hK => ?_) AllReadyH.nil
              go_simp
              refine hK.out _ _ hB9 (fun hH => ?_)
              clear hK K e0 e1 e2 e3 ef0 ef1 ef2 ef3 hB9
              generalize ((((wq49.setCell ⟨Wq39.heap.size, 0, none⟩ (.int .u64 (lim ra 0))).setCell ⟨Wq39.heap.size, 1, none⟩ (.int .u64 (lim ra 1))).setCell ⟨Wq39.heap.size, 2, none⟩ (.int .u64 (lim ra 2))).setCell ⟨Wq39.heap.size, 3, none⟩ (.int .u64 (lim ra 3))) = Wyq50 at hH R5 hz9 ⊢
              refine wpAnyH_done (by kernel_rfl) ?_ _
              have hb5 : Wq39.heap.size < Wyq50.heap.size := by omega
              obtain ⟨e0, e1, e2, e3, -⟩ := R5
              have hS5 := (hS.keep hH).cons (Wq39.heap.size) (ra) ⟨e0, e1, e2, e3⟩ hb5
              clear e0 e1 e2 e3
              go_wp2_with fail
              go_meet
              case rel => exact ⟨_, rfl, hS5⟩
      case rest =>
        obtain ⟨B20, rfl, hS2⟩ := hcut
        clear hS
        have hS := hS2
        clear hS2
        clear C6 C5
        go_upto_region 21 with fail
        refine wp_region_held_drew (S := fun W => HeldL w W [(B20, ra), (wq37.heap.size, rb), (wq35.heap.size, ra), (wq33.heap.size, 1), (wq31.heap.size, 1), (wq20.heap.size, n), (wq18.heap.size, m), (wq16.heap.size, y), (wq14.heap.size, x), (wq12.heap.size, r), (wq10.heap.size, q), (wq8.heap.size, 0), (w.heap.size, a), (w.heap.size + 1, b), (w.heap.size + 1 + 1, c)]) (by kernel_rfl) hS.drew (fun hH => ?_)
        clear hS
        refine take_d (i := 0) (d := some 153) (v := .agg #[.int .u64 (lim ra 0), .int .u64 (lim ra 1), .int .u64 (lim ra 2), .int .u64 (lim ra 3)]) rfl rfl (by kernel_rfl) (by kernel_rfl) (by kernel_rfl) (fun _ _ _ h => h) (Or.inl ⟨by rfl, fun W hW => ?_⟩) hH ?_
        · obtain ⟨k0_0, k0_1, k0_2, k0_3⟩ := hW.get (wq35.heap.size) (ra) (.tail _ (.tail _ (.head _)))
          clear hW hH
          go_simp
        simp only [Act.put, List.setIfInBounds_toArray, List.set_cons_zero, List.set_cons_succ]
        refine take_d (i := 1) (d := some 154) (v := .agg #[.int .u64 (lim rb 0), .int .u64 (lim rb 1), .int .u64 (lim rb 2), .int .u64 (lim rb 3)]) rfl rfl (by kernel_rfl) (by kernel_rfl) (by kernel_rfl) (fun _ _ _ h => h) (Or.inl ⟨by rfl, fun W hW => ?_⟩) hH ?_
        · obtain ⟨k0_0, k0_1, k0_2, k0_3⟩ := hW.get (wq37.heap.size) (rb) (.tail _ (.head _))
          clear hW hH
          go_simp
        simp only [Act.put, List.setIfInBounds_toArray, List.set_cons_zero, List.set_cons_succ]
        refine take_d (i := 2) (d := some 155) (v := .agg #[.int .u64 (lim c 0), .int .u64 (lim c 1), .int .u64 (lim c 2), .int .u64 (lim c 3)]) rfl rfl (by kernel_rfl) (by kernel_rfl) (by kernel_rfl) (fun _ _ _ h => h) (Or.inl ⟨by rfl, fun W hW => ?_⟩) hH ?_
        · obtain ⟨k0_0, k0_1, k0_2, k0_3⟩ := hW.get (w.heap.size + 1 + 1) (c) (.tail _ (.tail _ (.tail _ (.tail _ (.tail _ (.tail _ (.tail _ (.tail _ (.tail _ (.tail _ (.tail _ (.tail _ (.tail _ (.tail _ (.head _)))))))))))))))
          clear hW hH
          go_simp
        simp only [Act.put, List.setIfInBounds_toArray, List.set_cons_zero, List.set_cons_succ]
        refine take_d (i := 4) (d := some 157) (v := .agg #[.int .u64 (lim m 0), .int .u64 (lim m 1), .int .u64 (lim m 2), .int .u64 (lim m 3)]) rfl rfl (by kernel_rfl) (by kernel_rfl) (by kernel_rfl) (fun _ _ _ h => h) (Or.inl ⟨by rfl, fun W hW => ?_⟩) hH ?_
        · obtain ⟨k0_0, k0_1, k0_2, k0_3⟩ := hW.get (wq18.heap.size) (m) (.tail _ (.tail _ (.tail _ (.tail _ (.tail _ (.tail _ (.head _)))))))
          clear hW hH
          go_simp
        simp only [Act.put, List.setIfInBounds_toArray, List.set_cons_zero, List.set_cons_succ]
        refine wpAnyH_ready (rs := [3]) (by kernel_rfl) (by simp) ?_
        refine AllReadyH.cons rfl (fun K hK => ?_) AllReadyH.nil
        go_simp
        refine (C7 _).mono ?_
        rintro e wq51 ⟨rfl, hbn⟩
        go_wp2_with fail
        refine hK.out _ _ (HeldL.keep hH hbn) (fun hH => ?_)
        clear hbn hK K
        refine take_d (i := 5) (d := some 158) (v := .bool true) rfl rfl (by kernel_rfl) (by kernel_rfl) (by kernel_rfl) (fun _ _ _ h => h) (Or.inl ⟨by rfl, fun W hW => ?_⟩) hH ?_
        · clear hW hH
          go_simp
        simp only [Act.put, List.setIfInBounds_toArray, List.set_cons_zero, List.set_cons_succ]
        refine take_d (i := 6) (d := some 159) (v := .bool true) rfl rfl (by kernel_rfl) (by kernel_rfl) (by kernel_rfl) (fun _ _ _ h => h) (Or.inl ⟨by rfl, fun W hW => ?_⟩) hH ?_
        · clear hW hH
          go_simp
        simp only [Act.put, List.setIfInBounds_toArray, List.set_cons_zero, List.set_cons_succ]
        refine take_d (i := 7) (d := some 160) (v := .agg #[.int .u64 (lim ra 0), .int .u64 (lim ra 1), .int .u64 (lim ra 2), .int .u64 (lim ra 3)]) rfl rfl (by kernel_rfl) (by kernel_rfl) (by kernel_rfl) (fun _ _ _ h => h) (Or.inl ⟨by rfl, fun W hW => ?_⟩) hH ?_
        · obtain ⟨k0_0, k0_1, k0_2, k0_3⟩ := hW.get (wq35.heap.size) (ra) (.tail _ (.tail _ (.head _)))
          clear hW hH
          go_simp
        simp only [Act.put, List.setIfInBounds_toArray, List.set_cons_zero, List.set_cons_succ]
        refine take_d (i := 8) (d := some 161) (v := .agg #[.int .u64 (lim rb 0), .int .u64 (lim rb 1), .int .u64 (lim rb 2), .int .u64 (lim rb 3)]) rfl rfl (by kernel_rfl) (by kernel_rfl) (by kernel_rfl) (fun _ _ _ h => h) (Or.inl ⟨by rfl, fun W hW => ?_⟩) hH ?_
        · obtain ⟨k0_0, k0_1, k0_2, k0_3⟩ := hW.get (wq37.heap.size) (rb) (.tail _ (.head _))
          clear hW hH
          go_simp
        simp only [Act.put, List.setIfInBounds_toArray, List.set_cons_zero, List.set_cons_succ]
        refine take_d (i := 9) (d := some 162) (v := .agg #[.int .u64 (lim c 0), .int .u64 (lim c 1), .int .u64 (lim c 2), .int .u64 (lim c 3)]) rfl rfl (by kernel_rfl) (by kernel_rfl) (by kernel_rfl) (fun _ _ _ h => h) (Or.inl ⟨by rfl, fun W hW => ?_⟩) hH ?_
        · obtain ⟨k0_0, k0_1, k0_2, k0_3⟩ := hW.get (w.heap.size + 1 + 1) (c) (.tail _ (.tail _ (.tail _ (.tail _ (.tail _ (.tail _ (.tail _ (.tail _ (.tail _ (.tail _ (.tail _ (.tail _ (.tail _ (.tail _ (.head _)))))))))))))))
          clear hW hH
          go_simp
        simp only [Act.put, List.setIfInBounds_toArray, List.set_cons_zero, List.set_cons_succ]
        refine take_d (i := 11) (d := some 164) (v := .agg #[.int .u64 (lim n 0), .int .u64 (lim n 1), .int .u64 (lim n 2), .int .u64 (lim n 3)]) rfl rfl (by kernel_rfl) (by kernel_rfl) (by kernel_rfl) (fun _ _ _ h => h) (Or.inl ⟨by rfl, fun W hW => ?_⟩) hH ?_
        · obtain ⟨k0_0, k0_1, k0_2, k0_3⟩ := hW.get (wq20.heap.size) (n) (.tail _ (.tail _ (.tail _ (.tail _ (.tail _ (.head _))))))
          clear hW hH
          go_simp
        simp only [Act.put, List.setIfInBounds_toArray, List.set_cons_zero, List.set_cons_succ]
        refine wpAnyH_ready (rs := [10]) (by kernel_rfl) (by simp) ?_
        refine AllReadyH.cons rfl (fun K hK => ?_) AllReadyH.nil
        go_simp
        refine (C8 _).mono ?_
        rintro e wq52 ⟨rfl, hbn⟩
        go_wp2_with fail
        refine hK.out _ _ (HeldL.keep hH hbn) (fun hH => ?_)
        clear hbn hK K
        refine take_d (i := 12) (d := some 165) (v := .bool true) rfl rfl (by kernel_rfl) (by kernel_rfl) (by kernel_rfl) (fun _ _ _ h => h) (Or.inl ⟨by rfl, fun W hW => ?_⟩) hH ?_
        · clear hW hH
          go_simp
        simp only [Act.put, List.setIfInBounds_toArray, List.set_cons_zero, List.set_cons_succ]
        refine take_d (i := 13) (d := some 166) (v := .bool true) rfl rfl (by kernel_rfl) (by kernel_rfl) (by kernel_rfl) (fun _ _ _ h => h) (Or.inl ⟨by rfl, fun W hW => ?_⟩) hH ?_
        · clear hW hH
          go_simp
        simp only [Act.put, List.setIfInBounds_toArray, List.set_cons_zero, List.set_cons_succ]
        refine take_d (i := 14) (d := some 167) (v := .bool true) rfl rfl (by kernel_rfl) (by kernel_rfl) (by kernel_rfl) (fun _ _ _ h => h) (Or.inl ⟨by rfl, fun W hW => ?_⟩) hH ?_
        · clear hW hH
          go_simp
        simp only [Act.put, List.setIfInBounds_toArray, List.set_cons_zero, List.set_cons_succ]
        refine take_d (i := 15) (d := some 168) (v := .agg #[.int .u64 (lim ra 0), .int .u64 (lim ra 1), .int .u64 (lim ra 2), .int .u64 (lim ra 3)]) rfl rfl (by kernel_rfl) (by kernel_rfl) (by kernel_rfl) (fun _ _ _ h => h) (Or.inl ⟨by rfl, fun W hW => ?_⟩) hH ?_
        · obtain ⟨k0_0, k0_1, k0_2, k0_3⟩ := hW.get (B20) (ra) (.head _)
          clear hW hH
          go_simp
        simp only [Act.put, List.setIfInBounds_toArray, List.set_cons_zero, List.set_cons_succ]
        refine take_d (i := 16) (d := some 169) (v := .agg #[.int .u64 (lim ra 0), .int .u64 (lim ra 1), .int .u64 (lim ra 2), .int .u64 (lim ra 3)]) rfl rfl (by kernel_rfl) (by kernel_rfl) (by kernel_rfl) (fun _ _ _ h => h) (Or.inl ⟨by rfl, fun W hW => ?_⟩) hH ?_
        · obtain ⟨k0_0, k0_1, k0_2, k0_3⟩ := hW.get (wq35.heap.size) (ra) (.tail _ (.tail _ (.head _)))
          clear hW hH
          go_simp
        simp only [Act.put, List.setIfInBounds_toArray, List.set_cons_zero, List.set_cons_succ]
        refine take_d (i := 17) (d := some 170) (v := .bool true) rfl rfl (by kernel_rfl) (by kernel_rfl) (by kernel_rfl) (fun _ _ _ h => h) (Or.inl ⟨by rfl, fun W hW => ?_⟩) hH ?_
        · clear hW hH
          go_simp
        simp only [Act.put, List.setIfInBounds_toArray, List.set_cons_zero, List.set_cons_succ]
        refine take_d (i := 18) (d := some 171) (v := .bool true) rfl rfl (by kernel_rfl) (by kernel_rfl) (by kernel_rfl) (fun _ _ _ h => h) (Or.inl ⟨by rfl, fun W hW => ?_⟩) hH ?_
        · clear hW hH
          go_simp
        simp only [Act.put, List.setIfInBounds_toArray, List.set_cons_zero, List.set_cons_succ]
        refine take_d (i := 19) (d := some 21) (v := .bool true) rfl rfl (by kernel_rfl) (by kernel_rfl) (by kernel_rfl) (fun _ _ _ h => h) (Or.inl ⟨by rfl, fun W hW => ?_⟩) hH ?_
        · clear hW hH
          go_simp
        simp only [Act.put, List.setIfInBounds_toArray, List.set_cons_zero, List.set_cons_succ]
        refine wpAnyH_done (by kernel_rfl) ?_ _
        have hS := hH
        clear hH
        go_upto_region 22 with fail
        refine wp_region_held_drew (S := fun W => HeldL w W [(B20, ra), (wq37.heap.size, rb), (wq35.heap.size, ra), (wq33.heap.size, 1), (wq31.heap.size, 1), (wq20.heap.size, n), (wq18.heap.size, m), (wq16.heap.size, y), (wq14.heap.size, x), (wq12.heap.size, r), (wq10.heap.size, q), (wq8.heap.size, 0), (w.heap.size, a), (w.heap.size + 1, b), (w.heap.size + 1 + 1, c)]) (by kernel_rfl) hS.drew (fun hH => ?_)
        clear hS
        refine take_d (i := 0) (d := some 172) (v := .agg #[.int .u64 (lim a 0), .int .u64 (lim a 1), .int .u64 (lim a 2), .int .u64 (lim a 3)]) rfl rfl (by kernel_rfl) (by kernel_rfl) (by kernel_rfl) (fun _ _ _ h => h) (Or.inl ⟨by rfl, fun W hW => ?_⟩) hH ?_
        · obtain ⟨k0_0, k0_1, k0_2, k0_3⟩ := hW.get (w.heap.size) (a) (.tail _ (.tail _ (.tail _ (.tail _ (.tail _ (.tail _ (.tail _ (.tail _ (.tail _ (.tail _ (.tail _ (.tail _ (.head _)))))))))))))
          clear hW hH
          go_simp
        simp only [Act.put, List.setIfInBounds_toArray, List.set_cons_zero, List.set_cons_succ]
        refine take_d (i := 1) (d := some 173) (v := .agg #[.int .u64 (lim b 0), .int .u64 (lim b 1), .int .u64 (lim b 2), .int .u64 (lim b 3)]) rfl rfl (by kernel_rfl) (by kernel_rfl) (by kernel_rfl) (fun _ _ _ h => h) (Or.inl ⟨by rfl, fun W hW => ?_⟩) hH ?_
        · obtain ⟨k0_0, k0_1, k0_2, k0_3⟩ := hW.get (w.heap.size + 1) (b) (.tail _ (.tail _ (.tail _ (.tail _ (.tail _ (.tail _ (.tail _ (.tail _ (.tail _ (.tail _ (.tail _ (.tail _ (.tail _ (.head _))))))))))))))
          clear hW hH
          go_simp
        simp only [Act.put, List.setIfInBounds_toArray, List.set_cons_zero, List.set_cons_succ]
        refine take_d (i := 3) (d := some 175) (v := .agg #[.int .u64 (lim c 0), .int .u64 (lim c 1), .int .u64 (lim c 2), .int .u64 (lim c 3)]) rfl rfl (by kernel_rfl) (by kernel_rfl) (by kernel_rfl) (fun _ _ _ h => h) (Or.inl ⟨by rfl, fun W hW => ?_⟩) hH ?_
        · obtain ⟨k0_0, k0_1, k0_2, k0_3⟩ := hW.get (w.heap.size + 1 + 1) (c) (.tail _ (.tail _ (.tail _ (.tail _ (.tail _ (.tail _ (.tail _ (.tail _ (.tail _ (.tail _ (.tail _ (.tail _ (.tail _ (.tail _ (.head _)))))))))))))))
          clear hW hH
          go_simp
        simp only [Act.put, List.setIfInBounds_toArray, List.set_cons_zero, List.set_cons_succ]
        refine take_d (i := 5) (d := some 177) (v := .agg #[.int .u64 (lim c 0), .int .u64 (lim c 1), .int .u64 (lim c 2), .int .u64 (lim c 3)]) rfl rfl (by kernel_rfl) (by kernel_rfl) (by kernel_rfl) (fun _ _ _ h => h) (Or.inl ⟨by rfl, fun W hW => ?_⟩) hH ?_
        · obtain ⟨k0_0, k0_1, k0_2, k0_3⟩ := hW.get (w.heap.size + 1 + 1) (c) (.tail _ (.tail _ (.tail _ (.tail _ (.tail _ (.tail _ (.tail _ (.tail _ (.tail _ (.tail _ (.tail _ (.tail _ (.tail _ (.tail _ (.head _)))))))))))))))
          clear hW hH
          go_simp
        simp only [Act.put, List.setIfInBounds_toArray, List.set_cons_zero, List.set_cons_succ]
        refine take_d (i := 7) (d := some 179) (v := .agg #[.int .u64 (lim m 0), .int .u64 (lim m 1), .int .u64 (lim m 2), .int .u64 (lim m 3)]) rfl rfl (by kernel_rfl) (by kernel_rfl) (by kernel_rfl) (fun _ _ _ h => h) (Or.inl ⟨by rfl, fun W hW => ?_⟩) hH ?_
        · obtain ⟨k0_0, k0_1, k0_2, k0_3⟩ := hW.get (wq18.heap.size) (m) (.tail _ (.tail _ (.tail _ (.tail _ (.tail _ (.tail _ (.head _)))))))
          clear hW hH
          go_simp
        simp only [Act.put, List.setIfInBounds_toArray, List.set_cons_zero, List.set_cons_succ]
        refine take_d (i := 8) (d := some 180) (v := .agg #[.int .u64 (lim a 0), .int .u64 (lim a 1), .int .u64 (lim a 2), .int .u64 (lim a 3)]) rfl rfl (by kernel_rfl) (by kernel_rfl) (by kernel_rfl) (fun _ _ _ h => h) (Or.inl ⟨by rfl, fun W hW => ?_⟩) hH ?_
        · obtain ⟨k0_0, k0_1, k0_2, k0_3⟩ := hW.get (w.heap.size) (a) (.tail _ (.tail _ (.tail _ (.tail _ (.tail _ (.tail _ (.tail _ (.tail _ (.tail _ (.tail _ (.tail _ (.tail _ (.head _)))))))))))))
          clear hW hH
          go_simp
        simp only [Act.put, List.setIfInBounds_toArray, List.set_cons_zero, List.set_cons_succ]
        refine take_d (i := 9) (d := some 181) (v := .agg #[.int .u64 (lim c 0), .int .u64 (lim c 1), .int .u64 (lim c 2), .int .u64 (lim c 3)]) rfl rfl (by kernel_rfl) (by kernel_rfl) (by kernel_rfl) (fun _ _ _ h => h) (Or.inl ⟨by rfl, fun W hW => ?_⟩) hH ?_
        · obtain ⟨k0_0, k0_1, k0_2, k0_3⟩ := hW.get (w.heap.size + 1 + 1) (c) (.tail _ (.tail _ (.tail _ (.tail _ (.tail _ (.tail _ (.tail _ (.tail _ (.tail _ (.tail _ (.tail _ (.tail _ (.tail _ (.tail _ (.head _)))))))))))))))
          clear hW hH
          go_simp
        simp only [Act.put, List.setIfInBounds_toArray, List.set_cons_zero, List.set_cons_succ]
        refine wpAnyH_ready (rs := [2]) (by kernel_rfl) (by simp) ?_
        refine AllReadyH.cons rfl (fun K hK => ?_) AllReadyH.nil
        go_simp
        refine (of_ 1 (by decide) (by decide) _).mono ?_
        rintro e wq53 ⟨rfl, hbn⟩
        go_wp2_with fail
        refine hK.out _ _ (HeldL.keep hH hbn) (fun hH => ?_)
        clear hbn hK K
        refine wpAnyH_ready (rs := [4]) (by kernel_rfl) (by simp) ?_
        refine AllReadyH.cons rfl (fun K hK => ?_) AllReadyH.nil
        go_simp
        refine (C9 _).mono ?_
        rintro e wq54 ⟨rfl, hbn⟩
        go_wp2_with fail
        refine hK.out _ _ (HeldL.keep hH hbn) (fun hH => ?_)
        clear hbn hK K
        refine wpAnyH_ready (rs := [6]) (by kernel_rfl) (by simp) ?_
        refine AllReadyH.cons rfl (fun K hK => ?_) AllReadyH.nil
        go_simp
        refine (C10 _).mono ?_
        rintro e wq55 ⟨rfl, hbn⟩
        go_wp2_with fail
        refine hK.out _ _ (HeldL.keep hH hbn) (fun hH => ?_)
        clear hbn hK K
        refine wpAnyH_ready (rs := [10]) (by kernel_rfl) (by simp) ?_
        refine AllReadyH.cons rfl (fun K hK => ?_) AllReadyH.nil
        go_simp
        refine (C11 _).mono ?_
        rintro e wq56 ⟨rfl, hbn⟩
        go_wp2_with fail
        refine hK.out _ _ (HeldL.keep hH hbn) (fun hH => ?_)
        clear hbn hK K
        refine take_d (i := 11) (d := some 183) (v := .bool true) rfl rfl (by kernel_rfl) (by kernel_rfl) (by kernel_rfl) (fun _ _ _ h => h) (Or.inl ⟨by rfl, fun W hW => ?_⟩) hH ?_
        · clear hW hH
          go_simp
        simp only [Act.put, List.setIfInBounds_toArray, List.set_cons_zero, List.set_cons_succ]
        refine take_d (i := 12) (d := some 22) (v := .bool true) rfl rfl (by kernel_rfl) (by kernel_rfl) (by kernel_rfl) (fun _ _ _ h => h) (Or.inl ⟨by rfl, fun W hW => ?_⟩) hH ?_
        · clear hW hH
          go_simp
        simp only [Act.put, List.setIfInBounds_toArray, List.set_cons_zero, List.set_cons_succ]
        refine wpAnyH_done (by kernel_rfl) ?_ _
        have hS := hH
        clear hH
        go_upto_region 23 with fail
        obtain ⟨k0_0, k0_1, k0_2, k0_3⟩ := hS.get (wq31.heap.size) (1) (.tail _ (.tail _ (.tail _ (.tail _ (.head _)))))
        obtain ⟨k1_0, k1_1, k1_2, k1_3⟩ := hS.get (wq33.heap.size) (1) (.tail _ (.tail _ (.tail _ (.head _))))
        go_wp2_with fail
        refine (t1 _).mono ?_
        rintro e wq57 ⟨rfl, hbn⟩
        replace hS := hS.keep hbn
        clear hbn k0_0 k0_1 k0_2 k0_3 k1_0 k1_1 k1_2 k1_3
        obtain ⟨k0_0, k0_1, k0_2, k0_3⟩ := hS.get (wq33.heap.size) (1) (.tail _ (.tail _ (.tail _ (.head _))))
        go_wp2_with fail
        refine (t1 _).mono ?_
        rintro e wq58 ⟨rfl, hbn⟩
        replace hS := hS.keep hbn
        clear hbn k0_0 k0_1 k0_2 k0_3
        go_wp2
        go_ret
        exact ⟨rfl, hS.b⟩

end Go.Proofs.Ytbephahokhnccaa
