/-
  number.divide at this program: the quotient and the rest (a divisor of 1 part).
-/
import Derived.Test.YtbephahokhnccaaTm
import Derived.Test.YtbephahokhnccaaSu
import Derived.Test.YtbephahokhnccaaRw
import Derived.Test.YtbephahokhnccaaJ3
import Derived.Test.YtbephahokhnccaaJ2
import Derived.Test.YtbephahokhnccaaDvB
import Derived.RegionTactic
import Derived.Deep.RegionWith
import Derived.Test.YtbephahokhnccaaHeld
namespace Go.Proofs.Ytbephahokhnccaa
open Go.RowKit Go.Shelf
attribute [local go_sem] arrAt iw1 iw2 iw3 iw4 iw5 iw6 iw7 iw8 iw9

set_option maxHeartbeats 4000000 in
set_option maxRecDepth 100000 in
theorem divide_1 (n0 n1 n2 n3 n4 n5 n6 n7 d0 : Int) (w : World) (np0 : 0 ≤ n0) (nu0 : n0 < 18446744073709551616) (np1 : 0 ≤ n1) (nu1 : n1 < 18446744073709551616) (np2 : 0 ≤ n2) (nu2 : n2 < 18446744073709551616) (np3 : 0 ≤ n3) (nu3 : n3 < 18446744073709551616) (np4 : 0 ≤ n4) (nu4 : n4 < 18446744073709551616) (np5 : 0 ≤ n5) (nu5 : n5 < 18446744073709551616) (np6 : 0 ≤ n6) (nu6 : n6 < 18446744073709551616) (np7 : 0 ≤ n7) (nu7 : n7 < 18446744073709551616) (dp0 : 0 ≤ d0) (du0 : d0 < 18446744073709551616) (hz : (d0 == 0) = false) :
    Calls Try.prog 59 #[.agg #[.int .u64 n0, .int .u64 n1, .int .u64 n2, .int .u64 n3, .int .u64 n4, .int .u64 n5, .int .u64 n6, .int .u64 n7], .agg #[.int .u64 d0, .int .u64 0, .int .u64 0, .int .u64 0]] w fun e w' => ∃ (q0 q1 q2 q3 q4 q5 q6 q7 : Int) (r : Nat), e = .returned (.tuple #[.agg #[.int .u64 q0, .int .u64 q1, .int .u64 q2, .int .u64 q3, .int .u64 q4, .int .u64 q5, .int .u64 q6, .int .u64 q7], wd r]) ∧ (0 ≤ q0 ∧ q0 < 18446744073709551616 ∧ 0 ≤ q1 ∧ q1 < 18446744073709551616 ∧ 0 ≤ q2 ∧ q2 < 18446744073709551616 ∧ 0 ≤ q3 ∧ q3 < 18446744073709551616 ∧ 0 ≤ q4 ∧ q4 < 18446744073709551616 ∧ 0 ≤ q5 ∧ q5 < 18446744073709551616 ∧ 0 ≤ q6 ∧ q6 < 18446744073709551616 ∧ 0 ≤ q7 ∧ q7 < 18446744073709551616) ∧ Hid (n0 + n1 * 18446744073709551616 + n2 * 340282366920938463463374607431768211456 + n3 * 6277101735386680763835789423207666416102355444464034512896 + n4 * 115792089237316195423570985008687907853269984665640564039457584007913129639936 + n5 * 2135987035920910082395021706169552114602704522356652769947041607822219725780640550022962086936576 + n6 * 39402006196394479212279040100143613805079739270465446667948293404245721771497210611414266254884915640806627990306816 + n7 * 726838724295606890549323807888004534353641360687318060281490199180639288113397923326191050713763565560762521606266177933534601628614656 = (q0 + q1 * 18446744073709551616 + q2 * 340282366920938463463374607431768211456 + q3 * 6277101735386680763835789423207666416102355444464034512896 + q4 * 115792089237316195423570985008687907853269984665640564039457584007913129639936 + q5 * 2135987035920910082395021706169552114602704522356652769947041607822219725780640550022962086936576 + q6 * 39402006196394479212279040100143613805079739270465446667948293404245721771497210611414266254884915640806627990306816 + q7 * 726838724295606890549323807888004534353641360687318060281490199180639288113397923326191050713763565560762521606266177933534601628614656) * (d0) + r) ∧ Hid ((r : Int) < d0) ∧ Below w.heap.size w w' := by
  have dnz : 0 < d0 := by
    have : d0 ≠ 0 := by simpa using hz
    omega
  have B4 := below4 w (.cells #[.int .u64 n0, .int .u64 n1, .int .u64 n2, .int .u64 n3, .int .u64 n4, .int .u64 n5, .int .u64 n6, .int .u64 n7] 56) (.cells #[.int .u64 d0, .int .u64 0, .int .u64 0, .int .u64 0] 24) (.cells #[.int .u64 0, .int .u64 0, .int .u64 0, .int .u64 0, .int .u64 0, .int .u64 0, .int .u64 0, .int .u64 0] 56) (.cells #[.int .u64 0, .int .u64 0, .int .u64 0, .int .u64 0] 24)
  have RN := row8_new w n0 n1 n2 n3 n4 n5 n6 n7
  have RD := row4_new (w.alloc (.cells #[.int .u64 n0, .int .u64 n1, .int .u64 n2, .int .u64 n3, .int .u64 n4, .int .u64 n5, .int .u64 n6, .int .u64 n7] 56)) d0 0 0 0
  have RQ := row8_new ((w.alloc (.cells #[.int .u64 n0, .int .u64 n1, .int .u64 n2, .int .u64 n3, .int .u64 n4, .int .u64 n5, .int .u64 n6, .int .u64 n7] 56)).alloc (.cells #[.int .u64 d0, .int .u64 0, .int .u64 0, .int .u64 0] 24)) 0 0 0 0 0 0 0 0
  have RZ := row4_new (((w.alloc (.cells #[.int .u64 n0, .int .u64 n1, .int .u64 n2, .int .u64 n3, .int .u64 n4, .int .u64 n5, .int .u64 n6, .int .u64 n7] 56)).alloc (.cells #[.int .u64 d0, .int .u64 0, .int .u64 0, .int .u64 0] 24)).alloc (.cells #[.int .u64 0, .int .u64 0, .int .u64 0, .int .u64 0, .int .u64 0, .int .u64 0, .int .u64 0, .int .u64 0] 56)) 0 0 0 0
  simp only [World.size_alloc] at RD RQ RZ
  replace RN := ((RN.below (below1 _ (.cells #[.int .u64 d0, .int .u64 0, .int .u64 0, .int .u64 0] 24)) (by simp)).below (below1 _ (.cells #[.int .u64 0, .int .u64 0, .int .u64 0, .int .u64 0, .int .u64 0, .int .u64 0, .int .u64 0, .int .u64 0] 56)) (by simp <;> omega)).below (below1 _ (.cells #[.int .u64 0, .int .u64 0, .int .u64 0, .int .u64 0] 24)) (by simp <;> omega)
  replace RD := (RD.below (below1 _ (.cells #[.int .u64 0, .int .u64 0, .int .u64 0, .int .u64 0, .int .u64 0, .int .u64 0, .int .u64 0, .int .u64 0] 56)) (by simp)).below (below1 _ (.cells #[.int .u64 0, .int .u64 0, .int .u64 0, .int .u64 0] 24)) (by simp <;> omega)
  replace RQ := RQ.below (below1 _ (.cells #[.int .u64 0, .int .u64 0, .int .u64 0, .int .u64 0] 24)) (by simp)
  go_enter Try.func59, Try.ntmps59
  go_wp2_with fail
  refine (pl1 d0 hz _).mono ?_
  rintro e w1 ⟨rfl, hb⟩
  replace RN := RN.below hb (by simp <;> omega)
  replace RD := RD.below hb (by simp <;> omega)
  replace RQ := RQ.below hb (by simp <;> omega)
  replace RZ := RZ.below hb (by simp)
  replace B4 := B4.trans (hb.mono B4.size)
  have hsz : w.heap.size + 1 + 1 + 1 < w1.heap.size := by have := hb.size; simp at this; omega
  clear hb
  have hld := RD.c0
  go_wp2_with (go_at_call 71; refine (lz_s d0 _ dnz du0).mono ?_; rintro e w1' ⟨s, rfl, hs, HL, rfl⟩)
  clear hld
  have RV := row4_new w1' 0 0 0 0
  have hbA := below1 w1' (.cells #[.int .u64 0, .int .u64 0, .int .u64 0, .int .u64 0] 24)
  replace RN := RN.below hbA (by omega)
  replace RD := RD.below hbA (by omega)
  replace RQ := RQ.below hbA (by omega)
  replace RZ := RZ.below hbA (by omega)
  replace B4 := B4.trans (hbA.mono B4.size)
  clear hbA
  go_region_with (go_at_call 72; refine (shiftUp44 w1'.heap.size (w.heap.size + 1) 4 4 d0 0 0 0 s _ (by omega) hs (by exact RV.c0) (by exact RV.c1) (by exact RV.c2) (by exact RV.c3) (by exact RV.fz 0 (by decide)) (by exact RV.fz 1 (by decide)) (by exact RV.fz 2 (by decide)) (by exact RV.fz 3 (by decide)) (by exact RD.c0) (by exact RD.c1) (by exact RD.c2) (by exact RD.c3) dp0 du0 (Int.le_refl 0) (by decide) (Int.le_refl 0) (by decide) (Int.le_refl 0) (by decide)).mono ?_; rintro e w2 ⟨t0, t1, t2, t3, ov, rfl, ⟨tp0, tu0, tp1, tu1, tp2, tu2, tp3, tu3⟩, HS, o0, o1, hc, ho⟩)
  replace ho := ho.from_drew
  replace RV : Row4 w2 w1'.heap.size t0 t1 t2 t3 := ⟨hc.1, hc.2.1, hc.2.2.1, hc.2.2.2, fun j hj => (ho.frozen j).trans (RV.fz j hj)⟩
  replace RN := RN.only ho (by omega)
  replace RQ := RQ.only ho (by omega)
  replace RZ := RZ.only ho (by omega)
  have hs2 : w1'.heap.size < w2.heap.size := by have := ho.size; simp at this; omega
  replace B4 := B4.trans (ho.below (by omega))
  clear ho hc RD
  obtain ⟨rfl, rfl, rfl, tn, HD⟩ := norm_1 t0 t1 t2 t3 ov d0 s (by omega) tp0 tu0 tp1 tu1 tp2 tu2 tp3 tu3 o0 dp0 du0 HL.out HS.out
  clear HS o0 o1
  go_wp2
  have RR := row9_new w2 0 0 0 0 0 0 0 0 0
  have hbA := below1 w2 (.cells #[.int .u64 0, .int .u64 0, .int .u64 0, .int .u64 0, .int .u64 0, .int .u64 0, .int .u64 0, .int .u64 0, .int .u64 0] 67)
  replace RN := RN.below hbA (by omega)
  replace RV := RV.below hbA (by omega)
  replace RQ := RQ.below hbA (by omega)
  replace RZ := RZ.below hbA (by omega)
  replace B4 := B4.trans (hbA.mono B4.size)
  clear hbA
  go_region_with (go_at_call 72; refine (shiftUp98 w2.heap.size w.heap.size 9 8 n0 n1 n2 n3 n4 n5 n6 n7 s _ (by omega) hs (by exact RR.c0) (by exact RR.c1) (by exact RR.c2) (by exact RR.c3) (by exact RR.c4) (by exact RR.c5) (by exact RR.c6) (by exact RR.c7) (by exact RR.c8) (by exact RR.fz 0 (by decide)) (by exact RR.fz 1 (by decide)) (by exact RR.fz 2 (by decide)) (by exact RR.fz 3 (by decide)) (by exact RR.fz 4 (by decide)) (by exact RR.fz 5 (by decide)) (by exact RR.fz 6 (by decide)) (by exact RR.fz 7 (by decide)) (by exact RR.fz 8 (by decide)) (by exact RN.c0) (by exact RN.c1) (by exact RN.c2) (by exact RN.c3) (by exact RN.c4) (by exact RN.c5) (by exact RN.c6) (by exact RN.c7) np0 nu0 np1 nu1 np2 nu2 np3 nu3 np4 nu4 np5 nu5 np6 nu6 np7 nu7).mono ?_; rintro e w3 ⟨r0, r1, r2, r3, r4, r5, r6, r7, r8, rfl, ⟨rp0, ru0, rp1, ru1, rp2, ru2, rp3, ru3, rp4, ru4, rp5, ru5, rp6, ru6, rp7, ru7, rp8, ru8⟩, HA, hr8, hc, ho⟩)
  replace ho := ho.from_drew
  replace RR : Row9 w3 w2.heap.size r0 r1 r2 r3 r4 r5 r6 r7 r8 := ⟨hc.1, hc.2.1, hc.2.2.1, hc.2.2.2.1, hc.2.2.2.2.1, hc.2.2.2.2.2.1, hc.2.2.2.2.2.2.1, hc.2.2.2.2.2.2.2.1, hc.2.2.2.2.2.2.2.2, fun j hj => (ho.frozen j).trans (RR.fz j hj)⟩
  replace RV := RV.only ho (by omega)
  replace RQ := RQ.only ho (by omega)
  replace RZ := RZ.only ho (by omega)
  have hs3 : w2.heap.size < w3.heap.size := by have := ho.size; simp at this; omega
  replace B4 := B4.trans (ho.below (by omega))
  clear ho hc RN
  have hr8' : r8 < t0 := by
    have := pow63 s hs
    omega
  go_wp2
  have RU := row8_new w3 0 0 0 0 0 0 0 0
  have hbA := below1 w3 (.cells #[.int .u64 0, .int .u64 0, .int .u64 0, .int .u64 0, .int .u64 0, .int .u64 0, .int .u64 0, .int .u64 0] 56)
  replace RR := RR.below hbA (by omega)
  replace RV := RV.below hbA (by omega)
  replace RQ := RQ.below hbA (by omega)
  replace RZ := RZ.below hbA (by omega)
  replace B4 := B4.trans (hbA.mono B4.size)
  clear hbA
  refine wp_loop_rounds 9 ?_
  rw [rounds_succ]
  go_wp2
  have HR : Hid (r7 + r8 * 18446744073709551616 < (t0) * 18446744073709551616) := by
    show _ < _
    omega
  go_region_with (go_at_call 73; refine (takeMost1 w2.heap.size w1'.heap.size 7 _ _ r7 r8 t0 _ (by omega) (by exact RR.c7) (by exact RR.c8) (by exact RR.fz 7 (by decide)) (by exact RR.fz 8 (by decide)) (by exact RV.c0) rp7 ru7 rp8 ru8 tp0 tu0 tn HR).mono ?_; rintro e w4_7 ⟨q7, s7_0, s7_1, rfl, qp7, qu7, ⟨sp7_0, su7_0, sp7_1, su7_1⟩, HQ, HX, hc, ho⟩; replace ho := ho.from_drew; have hfq := (RU.only ho (by omega)).fz 7 (by decide); have hcq := (RU.only ho (by omega)).c7)
  clear hfq hcq
  obtain rfl : s7_1 = 0 := by have := HX.out; omega
  replace RR : Row9 w4_7 w2.heap.size r0 r1 r2 r3 r4 r5 r6 s7_0 0 := ⟨((ho.cell 0 (by omega)).trans RR.c0), ((ho.cell 1 (by omega)).trans RR.c1), ((ho.cell 2 (by omega)).trans RR.c2), ((ho.cell 3 (by omega)).trans RR.c3), ((ho.cell 4 (by omega)).trans RR.c4), ((ho.cell 5 (by omega)).trans RR.c5), ((ho.cell 6 (by omega)).trans RR.c6), hc.1, hc.2, fun j hj => (ho.frozen j).trans (RR.fz j hj)⟩
  replace RV := RV.only ho (by omega)
  replace RQ := RQ.only ho (by omega)
  replace RZ := RZ.only ho (by omega)
  replace RU := (RU.only ho (by omega)).put7 q7
  replace B4 := B4.trans (ho.below (by omega))
  have hsx7 : w4_7.heap.size = w3.heap.size + 1 := by have := ho.size; simp at this; omega
  clear ho hc
  have ho := (Only.refl w4_7 w3.heap.size 7 (7 + 1)).setCell 7 (.int .u64 q7) (by omega) (by omega)
  replace RR := RR.only ho (by omega)
  replace RV := RV.only ho (by omega)
  replace RQ := RQ.only ho (by omega)
  replace RZ := RZ.only ho (by omega)
  replace B4 := B4.trans (ho.below (by omega))
  clear ho
  replace HA : Hid (r0 + r1 * 18446744073709551616 + r2 * 340282366920938463463374607431768211456 + r3 * 6277101735386680763835789423207666416102355444464034512896 + r4 * 115792089237316195423570985008687907853269984665640564039457584007913129639936 + r5 * 2135987035920910082395021706169552114602704522356652769947041607822219725780640550022962086936576 + r6 * 39402006196394479212279040100143613805079739270465446667948293404245721771497210611414266254884915640806627990306816 + s7_0 * 726838724295606890549323807888004534353641360687318060281490199180639288113397923326191050713763565560762521606266177933534601628614656 + 0 * 13407807929942597099574024998205846127479365820592393377723561443721764030073546976801874298166903427690031858186486050853753882811946569946433649006084096 + (q7 * (t0) * 726838724295606890549323807888004534353641360687318060281490199180639288113397923326191050713763565560762521606266177933534601628614656) = (n0 + n1 * 18446744073709551616 + n2 * 340282366920938463463374607431768211456 + n3 * 6277101735386680763835789423207666416102355444464034512896 + n4 * 115792089237316195423570985008687907853269984665640564039457584007913129639936 + n5 * 2135987035920910082395021706169552114602704522356652769947041607822219725780640550022962086936576 + n6 * 39402006196394479212279040100143613805079739270465446667948293404245721771497210611414266254884915640806627990306816 + n7 * 726838724295606890549323807888004534353641360687318060281490199180639288113397923326191050713763565560762521606266177933534601628614656) * 2 ^ s) := by
    have a := HA.out
    have b := HQ.out
    show _ = _
    generalize q7 * (t0) = X at *
    omega
  clear HQ HR
  go_wp2
  rw [rounds_succ]
  go_wp2
  have HR : Hid (r6 + s7_0 * 18446744073709551616 < (t0) * 18446744073709551616) := by
    show _ < _
    have := HX.out
    omega
  clear HX
  go_region_with (go_at_call 73; refine (takeMost1 w2.heap.size w1'.heap.size 6 _ _ r6 s7_0 t0 _ (by omega) (by exact RR.c6) (by exact RR.c7) (by exact RR.fz 6 (by decide)) (by exact RR.fz 7 (by decide)) (by exact RV.c0) rp6 ru6 sp7_0 su7_0 tp0 tu0 tn HR).mono ?_; rintro e w4_6 ⟨q6, s6_0, s6_1, rfl, qp6, qu6, ⟨sp6_0, su6_0, sp6_1, su6_1⟩, HQ, HX, hc, ho⟩; replace ho := ho.from_drew; have hfq := (RU.only ho (by omega)).fz 6 (by decide); have hcq := (RU.only ho (by omega)).c6)
  clear hfq hcq
  obtain rfl : s6_1 = 0 := by have := HX.out; omega
  replace RR : Row9 w4_6 w2.heap.size r0 r1 r2 r3 r4 r5 s6_0 0 0 := ⟨((ho.cell 0 (by omega)).trans RR.c0), ((ho.cell 1 (by omega)).trans RR.c1), ((ho.cell 2 (by omega)).trans RR.c2), ((ho.cell 3 (by omega)).trans RR.c3), ((ho.cell 4 (by omega)).trans RR.c4), ((ho.cell 5 (by omega)).trans RR.c5), hc.1, hc.2, ((ho.cell 8 (by omega)).trans RR.c8), fun j hj => (ho.frozen j).trans (RR.fz j hj)⟩
  replace RV := RV.only ho (by omega)
  replace RQ := RQ.only ho (by omega)
  replace RZ := RZ.only ho (by omega)
  replace RU := (RU.only ho (by omega)).put6 q6
  replace B4 := B4.trans (ho.below (by omega))
  have hsx6 : w4_6.heap.size = w3.heap.size + 1 := by have := ho.size; simp at this; omega
  clear ho hc
  have ho := (Only.refl w4_6 w3.heap.size 6 (6 + 1)).setCell 6 (.int .u64 q6) (by omega) (by omega)
  replace RR := RR.only ho (by omega)
  replace RV := RV.only ho (by omega)
  replace RQ := RQ.only ho (by omega)
  replace RZ := RZ.only ho (by omega)
  replace B4 := B4.trans (ho.below (by omega))
  clear ho
  replace HA : Hid (r0 + r1 * 18446744073709551616 + r2 * 340282366920938463463374607431768211456 + r3 * 6277101735386680763835789423207666416102355444464034512896 + r4 * 115792089237316195423570985008687907853269984665640564039457584007913129639936 + r5 * 2135987035920910082395021706169552114602704522356652769947041607822219725780640550022962086936576 + s6_0 * 39402006196394479212279040100143613805079739270465446667948293404245721771497210611414266254884915640806627990306816 + 0 * 726838724295606890549323807888004534353641360687318060281490199180639288113397923326191050713763565560762521606266177933534601628614656 + 0 * 13407807929942597099574024998205846127479365820592393377723561443721764030073546976801874298166903427690031858186486050853753882811946569946433649006084096 + (q6 * (t0) * 39402006196394479212279040100143613805079739270465446667948293404245721771497210611414266254884915640806627990306816 + q7 * (t0) * 726838724295606890549323807888004534353641360687318060281490199180639288113397923326191050713763565560762521606266177933534601628614656) = (n0 + n1 * 18446744073709551616 + n2 * 340282366920938463463374607431768211456 + n3 * 6277101735386680763835789423207666416102355444464034512896 + n4 * 115792089237316195423570985008687907853269984665640564039457584007913129639936 + n5 * 2135987035920910082395021706169552114602704522356652769947041607822219725780640550022962086936576 + n6 * 39402006196394479212279040100143613805079739270465446667948293404245721771497210611414266254884915640806627990306816 + n7 * 726838724295606890549323807888004534353641360687318060281490199180639288113397923326191050713763565560762521606266177933534601628614656) * 2 ^ s) := by
    have a := HA.out
    have b := HQ.out
    show _ = _
    generalize q6 * (t0) = X at *
    omega
  clear HQ HR
  go_wp2
  rw [rounds_succ]
  go_wp2
  have HR : Hid (r5 + s6_0 * 18446744073709551616 < (t0) * 18446744073709551616) := by
    show _ < _
    have := HX.out
    omega
  clear HX
  go_region_with (go_at_call 73; refine (takeMost1 w2.heap.size w1'.heap.size 5 _ _ r5 s6_0 t0 _ (by omega) (by exact RR.c5) (by exact RR.c6) (by exact RR.fz 5 (by decide)) (by exact RR.fz 6 (by decide)) (by exact RV.c0) rp5 ru5 sp6_0 su6_0 tp0 tu0 tn HR).mono ?_; rintro e w4_5 ⟨q5, s5_0, s5_1, rfl, qp5, qu5, ⟨sp5_0, su5_0, sp5_1, su5_1⟩, HQ, HX, hc, ho⟩; replace ho := ho.from_drew; have hfq := (RU.only ho (by omega)).fz 5 (by decide); have hcq := (RU.only ho (by omega)).c5)
  clear hfq hcq
  obtain rfl : s5_1 = 0 := by have := HX.out; omega
  replace RR : Row9 w4_5 w2.heap.size r0 r1 r2 r3 r4 s5_0 0 0 0 := ⟨((ho.cell 0 (by omega)).trans RR.c0), ((ho.cell 1 (by omega)).trans RR.c1), ((ho.cell 2 (by omega)).trans RR.c2), ((ho.cell 3 (by omega)).trans RR.c3), ((ho.cell 4 (by omega)).trans RR.c4), hc.1, hc.2, ((ho.cell 7 (by omega)).trans RR.c7), ((ho.cell 8 (by omega)).trans RR.c8), fun j hj => (ho.frozen j).trans (RR.fz j hj)⟩
  replace RV := RV.only ho (by omega)
  replace RQ := RQ.only ho (by omega)
  replace RZ := RZ.only ho (by omega)
  replace RU := (RU.only ho (by omega)).put5 q5
  replace B4 := B4.trans (ho.below (by omega))
  have hsx5 : w4_5.heap.size = w3.heap.size + 1 := by have := ho.size; simp at this; omega
  clear ho hc
  have ho := (Only.refl w4_5 w3.heap.size 5 (5 + 1)).setCell 5 (.int .u64 q5) (by omega) (by omega)
  replace RR := RR.only ho (by omega)
  replace RV := RV.only ho (by omega)
  replace RQ := RQ.only ho (by omega)
  replace RZ := RZ.only ho (by omega)
  replace B4 := B4.trans (ho.below (by omega))
  clear ho
  replace HA : Hid (r0 + r1 * 18446744073709551616 + r2 * 340282366920938463463374607431768211456 + r3 * 6277101735386680763835789423207666416102355444464034512896 + r4 * 115792089237316195423570985008687907853269984665640564039457584007913129639936 + s5_0 * 2135987035920910082395021706169552114602704522356652769947041607822219725780640550022962086936576 + 0 * 39402006196394479212279040100143613805079739270465446667948293404245721771497210611414266254884915640806627990306816 + 0 * 726838724295606890549323807888004534353641360687318060281490199180639288113397923326191050713763565560762521606266177933534601628614656 + 0 * 13407807929942597099574024998205846127479365820592393377723561443721764030073546976801874298166903427690031858186486050853753882811946569946433649006084096 + (q5 * (t0) * 2135987035920910082395021706169552114602704522356652769947041607822219725780640550022962086936576 + q6 * (t0) * 39402006196394479212279040100143613805079739270465446667948293404245721771497210611414266254884915640806627990306816 + q7 * (t0) * 726838724295606890549323807888004534353641360687318060281490199180639288113397923326191050713763565560762521606266177933534601628614656) = (n0 + n1 * 18446744073709551616 + n2 * 340282366920938463463374607431768211456 + n3 * 6277101735386680763835789423207666416102355444464034512896 + n4 * 115792089237316195423570985008687907853269984665640564039457584007913129639936 + n5 * 2135987035920910082395021706169552114602704522356652769947041607822219725780640550022962086936576 + n6 * 39402006196394479212279040100143613805079739270465446667948293404245721771497210611414266254884915640806627990306816 + n7 * 726838724295606890549323807888004534353641360687318060281490199180639288113397923326191050713763565560762521606266177933534601628614656) * 2 ^ s) := by
    have a := HA.out
    have b := HQ.out
    show _ = _
    generalize q5 * (t0) = X at *
    omega
  clear HQ HR
  go_wp2
  rw [rounds_succ]
  go_wp2
  have HR : Hid (r4 + s5_0 * 18446744073709551616 < (t0) * 18446744073709551616) := by
    show _ < _
    have := HX.out
    omega
  clear HX
  go_region_with (go_at_call 73; refine (takeMost1 w2.heap.size w1'.heap.size 4 _ _ r4 s5_0 t0 _ (by omega) (by exact RR.c4) (by exact RR.c5) (by exact RR.fz 4 (by decide)) (by exact RR.fz 5 (by decide)) (by exact RV.c0) rp4 ru4 sp5_0 su5_0 tp0 tu0 tn HR).mono ?_; rintro e w4_4 ⟨q4, s4_0, s4_1, rfl, qp4, qu4, ⟨sp4_0, su4_0, sp4_1, su4_1⟩, HQ, HX, hc, ho⟩; replace ho := ho.from_drew; have hfq := (RU.only ho (by omega)).fz 4 (by decide); have hcq := (RU.only ho (by omega)).c4)
  clear hfq hcq
  obtain rfl : s4_1 = 0 := by have := HX.out; omega
  replace RR : Row9 w4_4 w2.heap.size r0 r1 r2 r3 s4_0 0 0 0 0 := ⟨((ho.cell 0 (by omega)).trans RR.c0), ((ho.cell 1 (by omega)).trans RR.c1), ((ho.cell 2 (by omega)).trans RR.c2), ((ho.cell 3 (by omega)).trans RR.c3), hc.1, hc.2, ((ho.cell 6 (by omega)).trans RR.c6), ((ho.cell 7 (by omega)).trans RR.c7), ((ho.cell 8 (by omega)).trans RR.c8), fun j hj => (ho.frozen j).trans (RR.fz j hj)⟩
  replace RV := RV.only ho (by omega)
  replace RQ := RQ.only ho (by omega)
  replace RZ := RZ.only ho (by omega)
  replace RU := (RU.only ho (by omega)).put4 q4
  replace B4 := B4.trans (ho.below (by omega))
  have hsx4 : w4_4.heap.size = w3.heap.size + 1 := by have := ho.size; simp at this; omega
  clear ho hc
  have ho := (Only.refl w4_4 w3.heap.size 4 (4 + 1)).setCell 4 (.int .u64 q4) (by omega) (by omega)
  replace RR := RR.only ho (by omega)
  replace RV := RV.only ho (by omega)
  replace RQ := RQ.only ho (by omega)
  replace RZ := RZ.only ho (by omega)
  replace B4 := B4.trans (ho.below (by omega))
  clear ho
  replace HA : Hid (r0 + r1 * 18446744073709551616 + r2 * 340282366920938463463374607431768211456 + r3 * 6277101735386680763835789423207666416102355444464034512896 + s4_0 * 115792089237316195423570985008687907853269984665640564039457584007913129639936 + 0 * 2135987035920910082395021706169552114602704522356652769947041607822219725780640550022962086936576 + 0 * 39402006196394479212279040100143613805079739270465446667948293404245721771497210611414266254884915640806627990306816 + 0 * 726838724295606890549323807888004534353641360687318060281490199180639288113397923326191050713763565560762521606266177933534601628614656 + 0 * 13407807929942597099574024998205846127479365820592393377723561443721764030073546976801874298166903427690031858186486050853753882811946569946433649006084096 + (q4 * (t0) * 115792089237316195423570985008687907853269984665640564039457584007913129639936 + q5 * (t0) * 2135987035920910082395021706169552114602704522356652769947041607822219725780640550022962086936576 + q6 * (t0) * 39402006196394479212279040100143613805079739270465446667948293404245721771497210611414266254884915640806627990306816 + q7 * (t0) * 726838724295606890549323807888004534353641360687318060281490199180639288113397923326191050713763565560762521606266177933534601628614656) = (n0 + n1 * 18446744073709551616 + n2 * 340282366920938463463374607431768211456 + n3 * 6277101735386680763835789423207666416102355444464034512896 + n4 * 115792089237316195423570985008687907853269984665640564039457584007913129639936 + n5 * 2135987035920910082395021706169552114602704522356652769947041607822219725780640550022962086936576 + n6 * 39402006196394479212279040100143613805079739270465446667948293404245721771497210611414266254884915640806627990306816 + n7 * 726838724295606890549323807888004534353641360687318060281490199180639288113397923326191050713763565560762521606266177933534601628614656) * 2 ^ s) := by
    have a := HA.out
    have b := HQ.out
    show _ = _
    generalize q4 * (t0) = X at *
    omega
  clear HQ HR
  go_wp2
  rw [rounds_succ]
  go_wp2
  have HR : Hid (r3 + s4_0 * 18446744073709551616 < (t0) * 18446744073709551616) := by
    show _ < _
    have := HX.out
    omega
  clear HX
  go_region_with (go_at_call 73; refine (takeMost1 w2.heap.size w1'.heap.size 3 _ _ r3 s4_0 t0 _ (by omega) (by exact RR.c3) (by exact RR.c4) (by exact RR.fz 3 (by decide)) (by exact RR.fz 4 (by decide)) (by exact RV.c0) rp3 ru3 sp4_0 su4_0 tp0 tu0 tn HR).mono ?_; rintro e w4_3 ⟨q3, s3_0, s3_1, rfl, qp3, qu3, ⟨sp3_0, su3_0, sp3_1, su3_1⟩, HQ, HX, hc, ho⟩; replace ho := ho.from_drew; have hfq := (RU.only ho (by omega)).fz 3 (by decide); have hcq := (RU.only ho (by omega)).c3)
  clear hfq hcq
  obtain rfl : s3_1 = 0 := by have := HX.out; omega
  replace RR : Row9 w4_3 w2.heap.size r0 r1 r2 s3_0 0 0 0 0 0 := ⟨((ho.cell 0 (by omega)).trans RR.c0), ((ho.cell 1 (by omega)).trans RR.c1), ((ho.cell 2 (by omega)).trans RR.c2), hc.1, hc.2, ((ho.cell 5 (by omega)).trans RR.c5), ((ho.cell 6 (by omega)).trans RR.c6), ((ho.cell 7 (by omega)).trans RR.c7), ((ho.cell 8 (by omega)).trans RR.c8), fun j hj => (ho.frozen j).trans (RR.fz j hj)⟩
  replace RV := RV.only ho (by omega)
  replace RQ := RQ.only ho (by omega)
  replace RZ := RZ.only ho (by omega)
  replace RU := (RU.only ho (by omega)).put3 q3
  replace B4 := B4.trans (ho.below (by omega))
  have hsx3 : w4_3.heap.size = w3.heap.size + 1 := by have := ho.size; simp at this; omega
  clear ho hc
  have ho := (Only.refl w4_3 w3.heap.size 3 (3 + 1)).setCell 3 (.int .u64 q3) (by omega) (by omega)
  replace RR := RR.only ho (by omega)
  replace RV := RV.only ho (by omega)
  replace RQ := RQ.only ho (by omega)
  replace RZ := RZ.only ho (by omega)
  replace B4 := B4.trans (ho.below (by omega))
  clear ho
  replace HA : Hid (r0 + r1 * 18446744073709551616 + r2 * 340282366920938463463374607431768211456 + s3_0 * 6277101735386680763835789423207666416102355444464034512896 + 0 * 115792089237316195423570985008687907853269984665640564039457584007913129639936 + 0 * 2135987035920910082395021706169552114602704522356652769947041607822219725780640550022962086936576 + 0 * 39402006196394479212279040100143613805079739270465446667948293404245721771497210611414266254884915640806627990306816 + 0 * 726838724295606890549323807888004534353641360687318060281490199180639288113397923326191050713763565560762521606266177933534601628614656 + 0 * 13407807929942597099574024998205846127479365820592393377723561443721764030073546976801874298166903427690031858186486050853753882811946569946433649006084096 + (q3 * (t0) * 6277101735386680763835789423207666416102355444464034512896 + q4 * (t0) * 115792089237316195423570985008687907853269984665640564039457584007913129639936 + q5 * (t0) * 2135987035920910082395021706169552114602704522356652769947041607822219725780640550022962086936576 + q6 * (t0) * 39402006196394479212279040100143613805079739270465446667948293404245721771497210611414266254884915640806627990306816 + q7 * (t0) * 726838724295606890549323807888004534353641360687318060281490199180639288113397923326191050713763565560762521606266177933534601628614656) = (n0 + n1 * 18446744073709551616 + n2 * 340282366920938463463374607431768211456 + n3 * 6277101735386680763835789423207666416102355444464034512896 + n4 * 115792089237316195423570985008687907853269984665640564039457584007913129639936 + n5 * 2135987035920910082395021706169552114602704522356652769947041607822219725780640550022962086936576 + n6 * 39402006196394479212279040100143613805079739270465446667948293404245721771497210611414266254884915640806627990306816 + n7 * 726838724295606890549323807888004534353641360687318060281490199180639288113397923326191050713763565560762521606266177933534601628614656) * 2 ^ s) := by
    have a := HA.out
    have b := HQ.out
    show _ = _
    generalize q3 * (t0) = X at *
    omega
  clear HQ HR
  go_wp2
  rw [rounds_succ]
  go_wp2
  have HR : Hid (r2 + s3_0 * 18446744073709551616 < (t0) * 18446744073709551616) := by
    show _ < _
    have := HX.out
    omega
  clear HX
  go_region_with (go_at_call 73; refine (takeMost1 w2.heap.size w1'.heap.size 2 _ _ r2 s3_0 t0 _ (by omega) (by exact RR.c2) (by exact RR.c3) (by exact RR.fz 2 (by decide)) (by exact RR.fz 3 (by decide)) (by exact RV.c0) rp2 ru2 sp3_0 su3_0 tp0 tu0 tn HR).mono ?_; rintro e w4_2 ⟨q2, s2_0, s2_1, rfl, qp2, qu2, ⟨sp2_0, su2_0, sp2_1, su2_1⟩, HQ, HX, hc, ho⟩; replace ho := ho.from_drew; have hfq := (RU.only ho (by omega)).fz 2 (by decide); have hcq := (RU.only ho (by omega)).c2)
  clear hfq hcq
  obtain rfl : s2_1 = 0 := by have := HX.out; omega
  replace RR : Row9 w4_2 w2.heap.size r0 r1 s2_0 0 0 0 0 0 0 := ⟨((ho.cell 0 (by omega)).trans RR.c0), ((ho.cell 1 (by omega)).trans RR.c1), hc.1, hc.2, ((ho.cell 4 (by omega)).trans RR.c4), ((ho.cell 5 (by omega)).trans RR.c5), ((ho.cell 6 (by omega)).trans RR.c6), ((ho.cell 7 (by omega)).trans RR.c7), ((ho.cell 8 (by omega)).trans RR.c8), fun j hj => (ho.frozen j).trans (RR.fz j hj)⟩
  replace RV := RV.only ho (by omega)
  replace RQ := RQ.only ho (by omega)
  replace RZ := RZ.only ho (by omega)
  replace RU := (RU.only ho (by omega)).put2 q2
  replace B4 := B4.trans (ho.below (by omega))
  have hsx2 : w4_2.heap.size = w3.heap.size + 1 := by have := ho.size; simp at this; omega
  clear ho hc
  have ho := (Only.refl w4_2 w3.heap.size 2 (2 + 1)).setCell 2 (.int .u64 q2) (by omega) (by omega)
  replace RR := RR.only ho (by omega)
  replace RV := RV.only ho (by omega)
  replace RQ := RQ.only ho (by omega)
  replace RZ := RZ.only ho (by omega)
  replace B4 := B4.trans (ho.below (by omega))
  clear ho
  replace HA : Hid (r0 + r1 * 18446744073709551616 + s2_0 * 340282366920938463463374607431768211456 + 0 * 6277101735386680763835789423207666416102355444464034512896 + 0 * 115792089237316195423570985008687907853269984665640564039457584007913129639936 + 0 * 2135987035920910082395021706169552114602704522356652769947041607822219725780640550022962086936576 + 0 * 39402006196394479212279040100143613805079739270465446667948293404245721771497210611414266254884915640806627990306816 + 0 * 726838724295606890549323807888004534353641360687318060281490199180639288113397923326191050713763565560762521606266177933534601628614656 + 0 * 13407807929942597099574024998205846127479365820592393377723561443721764030073546976801874298166903427690031858186486050853753882811946569946433649006084096 + (q2 * (t0) * 340282366920938463463374607431768211456 + q3 * (t0) * 6277101735386680763835789423207666416102355444464034512896 + q4 * (t0) * 115792089237316195423570985008687907853269984665640564039457584007913129639936 + q5 * (t0) * 2135987035920910082395021706169552114602704522356652769947041607822219725780640550022962086936576 + q6 * (t0) * 39402006196394479212279040100143613805079739270465446667948293404245721771497210611414266254884915640806627990306816 + q7 * (t0) * 726838724295606890549323807888004534353641360687318060281490199180639288113397923326191050713763565560762521606266177933534601628614656) = (n0 + n1 * 18446744073709551616 + n2 * 340282366920938463463374607431768211456 + n3 * 6277101735386680763835789423207666416102355444464034512896 + n4 * 115792089237316195423570985008687907853269984665640564039457584007913129639936 + n5 * 2135987035920910082395021706169552114602704522356652769947041607822219725780640550022962086936576 + n6 * 39402006196394479212279040100143613805079739270465446667948293404245721771497210611414266254884915640806627990306816 + n7 * 726838724295606890549323807888004534353641360687318060281490199180639288113397923326191050713763565560762521606266177933534601628614656) * 2 ^ s) := by
    have a := HA.out
    have b := HQ.out
    show _ = _
    generalize q2 * (t0) = X at *
    omega
  clear HQ HR
  go_wp2
  rw [rounds_succ]
  go_wp2
  have HR : Hid (r1 + s2_0 * 18446744073709551616 < (t0) * 18446744073709551616) := by
    show _ < _
    have := HX.out
    omega
  clear HX
  go_region_with (go_at_call 73; refine (takeMost1 w2.heap.size w1'.heap.size 1 _ _ r1 s2_0 t0 _ (by omega) (by exact RR.c1) (by exact RR.c2) (by exact RR.fz 1 (by decide)) (by exact RR.fz 2 (by decide)) (by exact RV.c0) rp1 ru1 sp2_0 su2_0 tp0 tu0 tn HR).mono ?_; rintro e w4_1 ⟨q1, s1_0, s1_1, rfl, qp1, qu1, ⟨sp1_0, su1_0, sp1_1, su1_1⟩, HQ, HX, hc, ho⟩; replace ho := ho.from_drew; have hfq := (RU.only ho (by omega)).fz 1 (by decide); have hcq := (RU.only ho (by omega)).c1)
  clear hfq hcq
  obtain rfl : s1_1 = 0 := by have := HX.out; omega
  replace RR : Row9 w4_1 w2.heap.size r0 s1_0 0 0 0 0 0 0 0 := ⟨((ho.cell 0 (by omega)).trans RR.c0), hc.1, hc.2, ((ho.cell 3 (by omega)).trans RR.c3), ((ho.cell 4 (by omega)).trans RR.c4), ((ho.cell 5 (by omega)).trans RR.c5), ((ho.cell 6 (by omega)).trans RR.c6), ((ho.cell 7 (by omega)).trans RR.c7), ((ho.cell 8 (by omega)).trans RR.c8), fun j hj => (ho.frozen j).trans (RR.fz j hj)⟩
  replace RV := RV.only ho (by omega)
  replace RQ := RQ.only ho (by omega)
  replace RZ := RZ.only ho (by omega)
  replace RU := (RU.only ho (by omega)).put1 q1
  replace B4 := B4.trans (ho.below (by omega))
  have hsx1 : w4_1.heap.size = w3.heap.size + 1 := by have := ho.size; simp at this; omega
  clear ho hc
  have ho := (Only.refl w4_1 w3.heap.size 1 (1 + 1)).setCell 1 (.int .u64 q1) (by omega) (by omega)
  replace RR := RR.only ho (by omega)
  replace RV := RV.only ho (by omega)
  replace RQ := RQ.only ho (by omega)
  replace RZ := RZ.only ho (by omega)
  replace B4 := B4.trans (ho.below (by omega))
  clear ho
  replace HA : Hid (r0 + s1_0 * 18446744073709551616 + 0 * 340282366920938463463374607431768211456 + 0 * 6277101735386680763835789423207666416102355444464034512896 + 0 * 115792089237316195423570985008687907853269984665640564039457584007913129639936 + 0 * 2135987035920910082395021706169552114602704522356652769947041607822219725780640550022962086936576 + 0 * 39402006196394479212279040100143613805079739270465446667948293404245721771497210611414266254884915640806627990306816 + 0 * 726838724295606890549323807888004534353641360687318060281490199180639288113397923326191050713763565560762521606266177933534601628614656 + 0 * 13407807929942597099574024998205846127479365820592393377723561443721764030073546976801874298166903427690031858186486050853753882811946569946433649006084096 + (q1 * (t0) * 18446744073709551616 + q2 * (t0) * 340282366920938463463374607431768211456 + q3 * (t0) * 6277101735386680763835789423207666416102355444464034512896 + q4 * (t0) * 115792089237316195423570985008687907853269984665640564039457584007913129639936 + q5 * (t0) * 2135987035920910082395021706169552114602704522356652769947041607822219725780640550022962086936576 + q6 * (t0) * 39402006196394479212279040100143613805079739270465446667948293404245721771497210611414266254884915640806627990306816 + q7 * (t0) * 726838724295606890549323807888004534353641360687318060281490199180639288113397923326191050713763565560762521606266177933534601628614656) = (n0 + n1 * 18446744073709551616 + n2 * 340282366920938463463374607431768211456 + n3 * 6277101735386680763835789423207666416102355444464034512896 + n4 * 115792089237316195423570985008687907853269984665640564039457584007913129639936 + n5 * 2135987035920910082395021706169552114602704522356652769947041607822219725780640550022962086936576 + n6 * 39402006196394479212279040100143613805079739270465446667948293404245721771497210611414266254884915640806627990306816 + n7 * 726838724295606890549323807888004534353641360687318060281490199180639288113397923326191050713763565560762521606266177933534601628614656) * 2 ^ s) := by
    have a := HA.out
    have b := HQ.out
    show _ = _
    generalize q1 * (t0) = X at *
    omega
  clear HQ HR
  go_wp2
  rw [rounds_succ]
  go_wp2
  have HR : Hid (r0 + s1_0 * 18446744073709551616 < (t0) * 18446744073709551616) := by
    show _ < _
    have := HX.out
    omega
  clear HX
  go_region_with (go_at_call 73; refine (takeMost1 w2.heap.size w1'.heap.size 0 _ _ r0 s1_0 t0 _ (by omega) (by exact RR.c0) (by exact RR.c1) (by exact RR.fz 0 (by decide)) (by exact RR.fz 1 (by decide)) (by exact RV.c0) rp0 ru0 sp1_0 su1_0 tp0 tu0 tn HR).mono ?_; rintro e w4_0 ⟨q0, s0_0, s0_1, rfl, qp0, qu0, ⟨sp0_0, su0_0, sp0_1, su0_1⟩, HQ, HX, hc, ho⟩; replace ho := ho.from_drew; have hfq := (RU.only ho (by omega)).fz 0 (by decide); have hcq := (RU.only ho (by omega)).c0)
  clear hfq hcq
  obtain rfl : s0_1 = 0 := by have := HX.out; omega
  replace RR : Row9 w4_0 w2.heap.size s0_0 0 0 0 0 0 0 0 0 := ⟨hc.1, hc.2, ((ho.cell 2 (by omega)).trans RR.c2), ((ho.cell 3 (by omega)).trans RR.c3), ((ho.cell 4 (by omega)).trans RR.c4), ((ho.cell 5 (by omega)).trans RR.c5), ((ho.cell 6 (by omega)).trans RR.c6), ((ho.cell 7 (by omega)).trans RR.c7), ((ho.cell 8 (by omega)).trans RR.c8), fun j hj => (ho.frozen j).trans (RR.fz j hj)⟩
  replace RV := RV.only ho (by omega)
  replace RQ := RQ.only ho (by omega)
  replace RZ := RZ.only ho (by omega)
  replace RU := (RU.only ho (by omega)).put0 q0
  replace B4 := B4.trans (ho.below (by omega))
  have hsx0 : w4_0.heap.size = w3.heap.size + 1 := by have := ho.size; simp at this; omega
  clear ho hc
  have ho := (Only.refl w4_0 w3.heap.size 0 (0 + 1)).setCell 0 (.int .u64 q0) (by omega) (by omega)
  replace RR := RR.only ho (by omega)
  replace RV := RV.only ho (by omega)
  replace RQ := RQ.only ho (by omega)
  replace RZ := RZ.only ho (by omega)
  replace B4 := B4.trans (ho.below (by omega))
  clear ho
  replace HA : Hid (s0_0 + 0 * 18446744073709551616 + 0 * 340282366920938463463374607431768211456 + 0 * 6277101735386680763835789423207666416102355444464034512896 + 0 * 115792089237316195423570985008687907853269984665640564039457584007913129639936 + 0 * 2135987035920910082395021706169552114602704522356652769947041607822219725780640550022962086936576 + 0 * 39402006196394479212279040100143613805079739270465446667948293404245721771497210611414266254884915640806627990306816 + 0 * 726838724295606890549323807888004534353641360687318060281490199180639288113397923326191050713763565560762521606266177933534601628614656 + 0 * 13407807929942597099574024998205846127479365820592393377723561443721764030073546976801874298166903427690031858186486050853753882811946569946433649006084096 + (q0 * (t0) + q1 * (t0) * 18446744073709551616 + q2 * (t0) * 340282366920938463463374607431768211456 + q3 * (t0) * 6277101735386680763835789423207666416102355444464034512896 + q4 * (t0) * 115792089237316195423570985008687907853269984665640564039457584007913129639936 + q5 * (t0) * 2135987035920910082395021706169552114602704522356652769947041607822219725780640550022962086936576 + q6 * (t0) * 39402006196394479212279040100143613805079739270465446667948293404245721771497210611414266254884915640806627990306816 + q7 * (t0) * 726838724295606890549323807888004534353641360687318060281490199180639288113397923326191050713763565560762521606266177933534601628614656) = (n0 + n1 * 18446744073709551616 + n2 * 340282366920938463463374607431768211456 + n3 * 6277101735386680763835789423207666416102355444464034512896 + n4 * 115792089237316195423570985008687907853269984665640564039457584007913129639936 + n5 * 2135987035920910082395021706169552114602704522356652769947041607822219725780640550022962086936576 + n6 * 39402006196394479212279040100143613805079739270465446667948293404245721771497210611414266254884915640806627990306816 + n7 * 726838724295606890549323807888004534353641360687318060281490199180639288113397923326191050713763565560762521606266177933534601628614656) * 2 ^ s) := by
    have a := HA.out
    have b := HQ.out
    show _ = _
    generalize q0 * (t0) = X at *
    omega
  clear HQ HR
  go_wp2
  rw [rounds_succ]
  go_wp2
  have hFin := fin_1 q0 q1 q2 q3 q4 q5 q6 q7 t0 (d0) (n0 + n1 * 18446744073709551616 + n2 * 340282366920938463463374607431768211456 + n3 * 6277101735386680763835789423207666416102355444464034512896 + n4 * 115792089237316195423570985008687907853269984665640564039457584007913129639936 + n5 * 2135987035920910082395021706169552114602704522356652769947041607822219725780640550022962086936576 + n6 * 39402006196394479212279040100143613805079739270465446667948293404245721771497210611414266254884915640806627990306816 + n7 * 726838724295606890549323807888004534353641360687318060281490199180639288113397923326191050713763565560762521606266177933534601628614656) (s0_0 + 0 * 18446744073709551616 + 0 * 340282366920938463463374607431768211456 + 0 * 6277101735386680763835789423207666416102355444464034512896) s HD.out (by have := HA.out; omega) (by omega) (by have := HX.out; omega)
  obtain ⟨r, hr1, hr2⟩ := hFin
  have HF : Hid (s0_0 + 0 * 18446744073709551616 + 0 * 340282366920938463463374607431768211456 + 0 * 6277101735386680763835789423207666416102355444464034512896 = r * 2 ^ s) := hr1
  have HF2 : Hid ((r : Int) < d0 ∧ n0 + n1 * 18446744073709551616 + n2 * 340282366920938463463374607431768211456 + n3 * 6277101735386680763835789423207666416102355444464034512896 + n4 * 115792089237316195423570985008687907853269984665640564039457584007913129639936 + n5 * 2135987035920910082395021706169552114602704522356652769947041607822219725780640550022962086936576 + n6 * 39402006196394479212279040100143613805079739270465446667948293404245721771497210611414266254884915640806627990306816 + n7 * 726838724295606890549323807888004534353641360687318060281490199180639288113397923326191050713763565560762521606266177933534601628614656 = (q0 + q1 * 18446744073709551616 + q2 * 340282366920938463463374607431768211456 + q3 * 6277101735386680763835789423207666416102355444464034512896 + q4 * 115792089237316195423570985008687907853269984665640564039457584007913129639936 + q5 * 2135987035920910082395021706169552114602704522356652769947041607822219725780640550022962086936576 + q6 * 39402006196394479212279040100143613805079739270465446667948293404245721771497210611414266254884915640806627990306816 + q7 * 726838724295606890549323807888004534353641360687318060281490199180639288113397923326191050713763565560762521606266177933534601628614656) * (d0) + r) := hr2
  clear hr1 hr2 HA HX HD HL
  have HQB : Hid ((0 : Int) ≤ q0 ∧ (q0 : Int) < 18446744073709551616 ∧ (0 : Int) ≤ q1 ∧ (q1 : Int) < 18446744073709551616 ∧ (0 : Int) ≤ q2 ∧ (q2 : Int) < 18446744073709551616 ∧ (0 : Int) ≤ q3 ∧ (q3 : Int) < 18446744073709551616 ∧ (0 : Int) ≤ q4 ∧ (q4 : Int) < 18446744073709551616 ∧ (0 : Int) ≤ q5 ∧ (q5 : Int) < 18446744073709551616 ∧ (0 : Int) ≤ q6 ∧ (q6 : Int) < 18446744073709551616 ∧ (0 : Int) ≤ q7 ∧ (q7 : Int) < 18446744073709551616) := ⟨qp0, qu0, qp1, qu1, qp2, qu2, qp3, qu3, qp4, qu4, qp5, qu5, qp6, qu6, qp7, qu7⟩
  have HXB : Hid ((0 : Int) ≤ s0_0 ∧ (s0_0 : Int) < 18446744073709551616 ∧ (0 : Int) ≤ 0 ∧ (0 : Int) < 18446744073709551616 ∧ (0 : Int) ≤ 0 ∧ (0 : Int) < 18446744073709551616 ∧ (0 : Int) ≤ 0 ∧ (0 : Int) < 18446744073709551616) := ⟨sp0_0, su0_0, (Int.le_refl 0), (by decide), (Int.le_refl 0), (by decide), (Int.le_refl 0), (by decide)⟩
  clear np0 nu0 np1 nu1 np2 nu2 np3 nu3 np4 nu4 np5 nu5 np6 nu6 np7 nu7 dp0 du0 tp0 tu0 tp1 tu1 tp2 tu2 tp3 tu3 tn hr8 hr8' dnz hz rp0 ru0 rp1 ru1 rp2 ru2 rp3 ru3 rp4 ru4 rp5 ru5 rp6 ru6 rp7 ru7 rp8 ru8 qp0 qu0 qp1 qu1 qp2 qu2 qp3 qu3 qp4 qu4 qp5 qu5 qp6 qu6 qp7 qu7 sp0_0 su0_0 sp0_1 su0_1 sp1_0 su1_0 sp1_1 su1_1 sp2_0 su2_0 sp2_1 su2_1 sp3_0 su3_0 sp3_1 su3_1 sp4_0 su4_0 sp4_1 su4_1 sp5_0 su5_0 sp5_1 su5_1 sp6_0 su6_0 sp6_1 su6_1 sp7_0 su7_0 sp7_1 su7_1
  refine wp_region_held_drew (S := fun W => Row8 W w3.heap.size q0 q1 q2 q3 q4 q5 q6 q7 ∧ Row9 W w2.heap.size s0_0 0 0 0 0 0 0 0 0) (by kernel_rfl) ⟨RU.drew, RR.drew⟩ (fun hH => ?_)
  refine take_d (i := 0) (d := some 48) (v := .agg #[.int .u64 q0, .int .u64 q1, .int .u64 q2, .int .u64 q3, .int .u64 q4, .int .u64 q5, .int .u64 q6, .int .u64 q7]) rfl rfl (by kernel_rfl) (by kernel_rfl) (by kernel_rfl) (fun _ _ _ h => h) (Or.inl ⟨by rfl, fun W hW => ?_⟩) hH ?_
  · obtain ⟨⟨ca0, ca1, ca2, ca3, ca4, ca5, ca6, ca7, -⟩, -⟩ := hW
    go_simp
  simp only [Act.put, List.setIfInBounds_toArray, List.set_cons_zero, List.set_cons_succ]
  refine take_d (i := 1) (d := some 49) (v := .slice (some ⟨w2.heap.size, 0, none⟩) 9 9) rfl rfl (by kernel_rfl) (by kernel_rfl) (by kernel_rfl) (fun _ _ _ h => h) (Or.inl ⟨by rfl, fun W hW => ?_⟩) hH ?_
  · clear hW
    go_simp
  simp only [Act.put, List.setIfInBounds_toArray, List.set_cons_zero, List.set_cons_succ]
  refine take_d (i := 2) (d := some 50) (v := .pointer (some ⟨w2.heap.size, 0, none⟩)) rfl rfl (by kernel_rfl) (by kernel_rfl) (by kernel_rfl) (fun _ _ _ h => h) (Or.inl ⟨by rfl, fun W hW => ?_⟩) hH ?_
  · clear hW
    go_simp
  simp only [Act.put, List.setIfInBounds_toArray, List.set_cons_zero, List.set_cons_succ]
  refine take_d (i := 3) (d := some 51) (v := .agg #[.int .u64 s0_0, .int .u64 0, .int .u64 0, .int .u64 0]) rfl rfl (by kernel_rfl) (by kernel_rfl) (by kernel_rfl) (fun _ _ _ h => h) (Or.inl ⟨by rfl, fun W hW => ?_⟩) hH ?_
  · obtain ⟨-, ⟨cb0, cb1, cb2, cb3, -, -, -, -, -, -⟩⟩ := hW
    go_simp
  simp only [Act.put, List.setIfInBounds_toArray, List.set_cons_zero, List.set_cons_succ]
  refine take_d (i := 4) (d := some 52) (v := .int .i64 s) rfl rfl (by kernel_rfl) (by kernel_rfl) (by kernel_rfl) (fun _ _ _ h => h) (Or.inl ⟨by rfl, fun W hW => ?_⟩) hH ?_
  · clear hW
    go_simp
  simp only [Act.put, List.setIfInBounds_toArray, List.set_cons_zero, List.set_cons_succ]
  refine wpAnyH_ready (rs := [5]) (by kernel_rfl) (by simp) ?_
  refine AllReadyH.cons rfl (fun K hK => ?_) AllReadyH.nil
  go_simp
  refine (shiftDown_v s0_0 0 0 0 s r _ hs HXB.out.1 HXB.out.2.1 HXB.out.2.2.1 HXB.out.2.2.2.1 HXB.out.2.2.2.2.1 HXB.out.2.2.2.2.2.1 HXB.out.2.2.2.2.2.2.1 HXB.out.2.2.2.2.2.2.2 HF).mono ?_
  rintro e w5 ⟨rfl, hb⟩
  have hb1 := Below.from_drew hb
  have hz5 := hb1.size
  simp only [World.size_setCell] at hz5
  replace RQ := RQ.below hb1 (by simp <;> omega)
  replace RZ := RZ.below hb1 (by simp <;> omega)
  replace B4 := B4.trans (hb1.mono B4.size)
  go_wp2_with fail
  refine hK.out _ _ ⟨hH.1.below hb (by show _ < (World.setCell _ _ _).heap.size; simp only [World.size_setCell]; omega), hH.2.below hb (by show _ < (World.setCell _ _ _).heap.size; simp only [World.size_setCell]; omega)⟩ (fun hH => ?_)
  clear hb hb1 hK K RU RR
  have RQ' := RQ
  have RZ' := RZ
  obtain ⟨da0, da1, da2, da3, da4, da5, da6, da7, df⟩ := RQ'
  obtain ⟨db0, db1, db2, db3, dg⟩ := RZ'
  have df0 := df 0 (by decide); have df1 := df 1 (by decide); have df2 := df 2 (by decide); have df3 := df 3 (by decide); have df4 := df 4 (by decide); have df5 := df 5 (by decide); have df6 := df 6 (by decide); have df7 := df 7 (by decide)
  have dg0 := dg 0 (by decide); have dg1 := dg 1 (by decide); have dg2 := dg 2 (by decide); have dg3 := dg 3 (by decide)
  clear df dg
  have ho8 : Only w5 ((((((((w5.setCell ⟨w.heap.size + 1 + 1, 0, none⟩ (.int .u64 q0)).setCell ⟨w.heap.size + 1 + 1, 1, none⟩ (.int .u64 q1)).setCell ⟨w.heap.size + 1 + 1, 2, none⟩ (.int .u64 q2)).setCell ⟨w.heap.size + 1 + 1, 3, none⟩ (.int .u64 q3)).setCell ⟨w.heap.size + 1 + 1, 4, none⟩ (.int .u64 q4)).setCell ⟨w.heap.size + 1 + 1, 5, none⟩ (.int .u64 q5)).setCell ⟨w.heap.size + 1 + 1, 6, none⟩ (.int .u64 q6)).setCell ⟨w.heap.size + 1 + 1, 7, none⟩ (.int .u64 q7)) (w.heap.size + 1 + 1) 0 8 := ((((((((Only.refl _ _ _ _).setCell _ _ (by omega) (by omega)).setCell _ _ (by omega) (by omega)).setCell _ _ (by omega) (by omega)).setCell _ _ (by omega) (by omega)).setCell _ _ (by omega) (by omega)).setCell _ _ (by omega) (by omega)).setCell _ _ (by omega) (by omega)).setCell _ _ (by omega) (by omega)
  have ho8' := ho8
  refine wpAnyH_ready (rs := [6]) (by kernel_rfl) (by simp) ?_
  refine AllReadyH.cons rfl (fun K hK => ?_) AllReadyH.nil
  clear ho8'
  have HO : Hid (Only w5 ((((((((w5.setCell ⟨w.heap.size + 1 + 1, 0, none⟩ (.int .u64 q0)).setCell ⟨w.heap.size + 1 + 1, 1, none⟩ (.int .u64 q1)).setCell ⟨w.heap.size + 1 + 1, 2, none⟩ (.int .u64 q2)).setCell ⟨w.heap.size + 1 + 1, 3, none⟩ (.int .u64 q3)).setCell ⟨w.heap.size + 1 + 1, 4, none⟩ (.int .u64 q4)).setCell ⟨w.heap.size + 1 + 1, 5, none⟩ (.int .u64 q5)).setCell ⟨w.heap.size + 1 + 1, 6, none⟩ (.int .u64 q6)).setCell ⟨w.heap.size + 1 + 1, 7, none⟩ (.int .u64 q7)) (w.heap.size + 1 + 1) 0 8) := ho8
  clear ho8 RQ RZ
  go_simp
  refine hK.out _ _ ⟨hH.1.only HO.out (by omega), hH.2.only HO.out (by omega)⟩ (fun hH => ?_)
  clear hK K
  refine wpAnyH_ready (rs := [7]) (by kernel_rfl) (by simp) ?_
  refine AllReadyH.cons rfl (fun K hK => ?_) AllReadyH.nil
  go_simp
  have HO4 : Only ((((((((w5.setCell ⟨w.heap.size + 1 + 1, 0, none⟩ (.int .u64 q0)).setCell ⟨w.heap.size + 1 + 1, 1, none⟩ (.int .u64 q1)).setCell ⟨w.heap.size + 1 + 1, 2, none⟩ (.int .u64 q2)).setCell ⟨w.heap.size + 1 + 1, 3, none⟩ (.int .u64 q3)).setCell ⟨w.heap.size + 1 + 1, 4, none⟩ (.int .u64 q4)).setCell ⟨w.heap.size + 1 + 1, 5, none⟩ (.int .u64 q5)).setCell ⟨w.heap.size + 1 + 1, 6, none⟩ (.int .u64 q6)).setCell ⟨w.heap.size + 1 + 1, 7, none⟩ (.int .u64 q7)) (set4 ((((((((w5.setCell ⟨w.heap.size + 1 + 1, 0, none⟩ (.int .u64 q0)).setCell ⟨w.heap.size + 1 + 1, 1, none⟩ (.int .u64 q1)).setCell ⟨w.heap.size + 1 + 1, 2, none⟩ (.int .u64 q2)).setCell ⟨w.heap.size + 1 + 1, 3, none⟩ (.int .u64 q3)).setCell ⟨w.heap.size + 1 + 1, 4, none⟩ (.int .u64 q4)).setCell ⟨w.heap.size + 1 + 1, 5, none⟩ (.int .u64 q5)).setCell ⟨w.heap.size + 1 + 1, 6, none⟩ (.int .u64 q6)).setCell ⟨w.heap.size + 1 + 1, 7, none⟩ (.int .u64 q7)) (w.heap.size + 1 + 1 + 1) r) (w.heap.size + 1 + 1 + 1) 0 4 := ((((Only.refl _ _ _ _).setCell _ _ (by omega) (by omega)).setCell _ _ (by omega) (by omega)).setCell _ _ (by omega) (by omega)).setCell _ _ (by omega) (by omega)
  refine hK.out _ _ ⟨hH.1.only HO4 (by omega), hH.2.only HO4 (by omega)⟩ (fun hH => ?_)
  clear hK K hH
  refine wpAnyH_done (by kernel_rfl) ?_ _
  go_wp2
  refine bodyPost_ret (v := .tuple #[.agg #[.int .u64 q0, .int .u64 q1, .int .u64 q2, .int .u64 q3, .int .u64 q4, .int .u64 q5, .int .u64 q6, .int .u64 q7], wd r]) (by simp [results, Try.results59, go_sem, da0, da1, da2, da3, da4, da5, da6, da7, db0, db1, db2, db3]) rfl ⟨q0, q1, q2, q3, q4, q5, q6, q7, r, rfl, HQB.out, ?_, HF2.out.1, (B4.trans (HO.out.below (by omega))).trans (HO4.below (by omega))⟩
  have h := HF2.out.2
  have e8 : q0 + q1 * 18446744073709551616 + q2 * 340282366920938463463374607431768211456 + q3 * 6277101735386680763835789423207666416102355444464034512896 + q4 * 115792089237316195423570985008687907853269984665640564039457584007913129639936 + q5 * 2135987035920910082395021706169552114602704522356652769947041607822219725780640550022962086936576 + q6 * 39402006196394479212279040100143613805079739270465446667948293404245721771497210611414266254884915640806627990306816 + q7 * 726838724295606890549323807888004534353641360687318060281490199180639288113397923326191050713763565560762521606266177933534601628614656 = q0 + q1 * 18446744073709551616 + q2 * 340282366920938463463374607431768211456 + q3 * 6277101735386680763835789423207666416102355444464034512896 + q4 * 115792089237316195423570985008687907853269984665640564039457584007913129639936 + q5 * 2135987035920910082395021706169552114602704522356652769947041607822219725780640550022962086936576 + q6 * 39402006196394479212279040100143613805079739270465446667948293404245721771497210611414266254884915640806627990306816 + q7 * 726838724295606890549323807888004534353641360687318060281490199180639288113397923326191050713763565560762521606266177933534601628614656 := by omega
  show _ = _
  rw [e8]
  exact h

end Go.Proofs.Ytbephahokhnccaa
