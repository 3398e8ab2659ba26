/-
  The ledger tells all accounts (19, 13).
-/
import Derived.Test.YtbephahokhnccaaGreatXG6toE6
import Derived.Test.YtbephahokhnccaaGreatF26
import Derived.Test.YtbephahokhnccaaGreatXF18toG3
import Derived.Shelf.Strconv.Clone
import Derived.Test.YtbephahokhnccaaGreatXE3toE5
namespace Go.Mark
open Go.RowKit Go.Proofs Go.Maps Go.Sort Go.Shelf
theorem u82 : TryQ.prog.underlying 82 = some (.map 3 87) := (q_underlying 82).trans Tryz.underlying82
set_option maxRecDepth 100000 in
theorem ownsI {w : World} {ma : Nat} {l : List (Int × Value)} (h : MapB (fun x : Int => Value.int .i64 x) w ma l) (hnd : (l.map (·.1)).Nodup) (hr : ∀ p ∈ l, -9223372036854775808 ≤ p.1 ∧ p.1 ≤ 9223372036854775807) (hn : l.length ≤ maxLen) :
    ∃ D0 : DataW Unit, w.ownsMap TryQ.prog 3 (fun _ => some (.nil, [])) ma l.length D0 ∧ (Go.intKeys D0).Perm (l.map (·.1)) ∧ Maps.size D0 = l.length := by
  obtain ⟨es, clock, hb, hR, hS⟩ := h
  have hlen : es.toList.length = l.length := by have := congrArg List.length hR; simpa using this
  have hkeys : es.toList.map (·.key) = (l.map (·.1)).map (fun x : Int => Value.int .i64 x) := by
    have := congrArg (List.map Prod.fst) hR
    rw [List.map_map, List.map_map] at this
    rw [List.map_map]
    exact this
  have hkey : ∀ e ∈ es.toList, ∃ x, e.key = .int .i64 x ∧ -9223372036854775808 ≤ x ∧ x ≤ 9223372036854775807 := fun e he => by
    have : e.key ∈ es.toList.map (·.key) := List.mem_map_of_mem he
    rw [hkeys] at this
    obtain ⟨x, hx, e1⟩ := List.mem_map.1 this
    obtain ⟨p, hp, rfl⟩ := List.mem_map.1 hx
    exact ⟨_, e1.symm, hr p hp⟩
  have hmin : IntKind.i64.min = -9223372036854775808 := by decide
  have hmax : IntKind.i64.max = 9223372036854775807 := by decide
  have hrd : ∀ e ∈ es.toList, ∀ x, e.key = .int .i64 x → Go.WideElems.rd TryQ.prog 3 (fun _ => some (DataW.nil, [])) e = some (.int .i64 x, (DataW.nil : DataW Unit)) := fun e he x hx => by
    obtain ⟨y, hy, h1, h2⟩ := hkey e he
    rw [hx] at hy
    cases hy
    unfold Go.WideElems.rd
    rw [hx, Maps.keyOf_int_mk u3 (by simp [Lit.wf, hmin, hmax]; omega)]
    rfl
  refine ⟨_, ⟨es, clock, hb, ⟨(by rw [← Array.length_toList]; omega), ⟨hS.1, hS.2, ?_⟩, fun e he => ?_⟩, (by rw [← Array.length_toList]; omega), rfl⟩, ?_, ?_⟩
  · rw [hkeys]
    exact List.pairwise_map.2 (hnd.imp fun h e => h (by cases e; rfl))
  · obtain ⟨x, hx, _⟩ := hkey e he
    exact ⟨_, hrd e he x hx⟩
  · show (((es.toList.map (Go.WideElems.rg TryQ.prog 3 _)).foldr DataW.insert []).map fun p => Go.intOf p.1).Perm _
    refine ((Go.WideShapes.sorted_perm _).map _).trans ?_
    rw [List.map_map]
    have : es.toList.map ((fun p : Lit × DataW Unit => Go.intOf p.1) ∘ Go.WideElems.rg TryQ.prog 3 (fun _ => some (DataW.nil, []))) = l.map (·.1) := by
      have e1 : (es.toList.map (·.key)).map (fun v => match v with | .int _ x => x | _ => 0) = l.map (·.1) := by
        rw [hkeys, List.map_map]
        exact List.map_id _
      rw [← e1, List.map_map]
      refine List.map_congr_left fun e he => ?_
      obtain ⟨x, hx, _⟩ := hkey e he
      simp only [Function.comp]
      unfold Go.WideElems.rg
      rw [hrd e he x hx, hx]
      rfl
    rw [this]
  · show ((es.toList.map (Go.WideElems.rg TryQ.prog 3 _)).foldr DataW.insert []).length = _
    rw [length_sorted, List.length_map, hlen]
theorem sortsI (m : Nat) : AnyZI.SortsIn TryQ.prog TryQ.sortedI_ren Fence.wide m :=
  ⟨fun blk off cap ss W hH hblk hsz => callsIn_wide.2 (AnyM.slices_Sort_int TryQ.sortI blk off cap ss W hH hblk hsz),
   fun p cap W => callsIn_wide.2 (AnyM.slices_Sort_int_none TryQ.sortI p cap W)⟩
theorem keys31 (mb : Option Nat) (W : World) : Calls TryQ.prog 31 #[.map mb] W fun e w' => e = .returned (.func (.func 43) #[] #[.pointer (some ⟨W.heap.size, 0, none⟩)]) ∧ w' = W.alloc (.cells #[.map mb] 82) :=
  (callsIn_wide (n := 5)).1 (AnyZI.keys_in TryQ.keysI Fence.wide 5 trivial rfl mb W)
/-- the keys of a map of ints, in order -/
theorem sorted30 (Bm b : Nat) (l : List (Int × Value)) (w : World) (hBm : Bm < w.heap.size) (hm : w.cell? ⟨Bm, 0, none⟩ = some (.map (some b))) (hM : MapB (fun x : Int => Value.int .i64 x) w b l) (hnd : (l.map (·.1)).Nodup) (hr : ∀ p ∈ l, -9223372036854775808 ≤ p.1 ∧ p.1 ≤ 9223372036854775807) (hn : l.length < 1000000000) :
    Calls TryQ.prog 30 #[.func (.func 43) #[] #[.pointer (some ⟨Bm, 0, none⟩)]] w fun e w' => ∃ (v : Value) (ks : List Int), e = .returned v ∧ ks.Perm (l.map (·.1)) ∧ Up id ks ∧ w'.ownsRow w.heap.size 3 1 v ks.length (ks.map fun x : Int => Value.int .i64 x) ∧ Below w.heap.size w w' := by
  obtain ⟨D0, hown, hkeys, hsz⟩ := ownsI hM hnd hr (by simp [maxLen]; omega)
  have hseq : SeqGives Fence.wide 2 TryQ.prog 43 #[.pointer (some ⟨Bm, 0, none⟩)] encZ (fun ss => ss.Perm (Go.intKeys D0)) (Maps.size D0) w :=
    AnyZI.keys_gives (ρ := TryQ.keysI_ren) { TryQ.keysI with } Fence.wide _ trivial rfl (by omega) Bm b l.length D0 _ hBm hm hown
  have cS := AnyZI.sorted_in TryQ.sortedI Fence.wide 5 trivial trivial trivial trivial rfl (by omega) (sortsI _) (enters_of TryQ.func42 (by kernel_rfl) rfl) 43 #[.pointer (some ⟨Bm, 0, none⟩)] trivial (enters_of TryQ.func43 (by kernel_rfl) rfl) _ _ (by rw [hsz]; simp [maxLen]; omega) (by rw [hsz]; omega) w hseq
  change CallsIn _ _ TryQ.prog 30 _ _ _ at cS
  refine ((callsIn_wide (n := 5)).1 cS).mono ?_
  rintro e w' ⟨v, ss, rfl, hS, hrow, _, hb⟩
  have hp : (ss.mergeSort fun x y => decide (x ≤ y)).Perm (l.map (·.1)) := (List.mergeSort_perm _ _).trans (hS.trans hkeys)
  refine ⟨v, ss.mergeSort (fun x y => decide (x ≤ y)), rfl, hp, ?_, by rw [List.length_mergeSort]; exact hrow, hb⟩
  have h1 : (ss.mergeSort fun x y => decide (x ≤ y)).Pairwise fun a b => decide (a ≤ b) = true := List.pairwise_mergeSort (fun a b c h1 h2 => by simp at *; omega) (fun a b => by simp; omega) ss
  have h2 : (ss.mergeSort fun x y => decide (x ≤ y)).Nodup := hp.nodup_iff.2 hnd
  exact List.pairwise_iff_getElem.2 fun i j hi hj hij => by
    have a1 := of_decide_eq_true (List.pairwise_iff_getElem.1 h1 i j hi hj hij)
    have a2 := List.pairwise_iff_getElem.1 h2 i j hi hj hij
    show (ss.mergeSort _)[i] < (ss.mergeSort _)[j]
    omega
/-- the ledger's accounts, and the block of each -/
def ledL (L : List (AccD × Nat)) : List (Int × Value) := L.map fun q => (q.1.id, .pointer (some ⟨q.2, 0, none⟩))
theorem ledL_keys (L : List (AccD × Nat)) : (ledL L).map (·.1) = L.map (·.1.id) := by unfold ledL; rw [List.map_map]; rfl
theorem find_led : ∀ (L : List (AccD × Nat)) (i : Nat) (q : AccD × Nat), (L.map (·.1.id)).Nodup → q ∈ L → ∃ j, findL q.1.id (ledL L) i = some (j, .pointer (some ⟨q.2, 0, none⟩))
  | [], _, _, _, h => by cases h
  | r :: L, i, q, hn, h => by
    have hn' := List.nodup_cons.1 hn
    show ∃ j, findL q.1.id ((r.1.id, Value.pointer (some ⟨r.2, 0, none⟩)) :: ledL L) i = _
    unfold findL
    by_cases hk : q.1.id = r.1.id
    · rcases List.mem_cons.1 h with rfl | h
      · exact ⟨i, by rw [if_pos rfl]⟩
      · exact absurd (by have h2 := List.mem_map_of_mem (f := fun x : AccD × Nat => x.1.id) h; rw [hk] at h2; exact h2) hn'.1
    · rcases List.mem_cons.1 h with rfl | h
      · exact absurd rfl hk
      · rw [if_neg hk]
        exact find_led L (i + 1) q hn'.2 h
/-- block pl holds a ledger with these accounts -/
structure LedgerAt (w : World) (pl : Nat) (L : List (AccD × Nat)) : Prop where
  ex : ∃ ma, w.cell? ⟨pl, 0, none⟩ = some (.map (some ma)) ∧ MapB (fun x : Int => Value.int .i64 x) w ma (ledL L)
  lt : pl < w.heap.size
  acc : ∀ q ∈ L, LedAt w q.2 q.1
  nd : (L.map (·.1.id)).Nodup
  rng : ∀ q ∈ L, 0 ≤ q.1.id ∧ q.1.id ≤ 4294967295
  num : L.length < 100000
theorem LedgerAt.below {w w' : World} {pl : Nat} {L : List (AccD × Nat)} (h : LedgerAt w pl L) (hb : Below w.heap.size w w') : LedgerAt w' pl L := by
  obtain ⟨ma, h1, h2⟩ := h.ex
  exact ⟨⟨ma, (hb.cell (p := ⟨pl, 0, none⟩) h.lt).trans h1, h2.below hb⟩, Nat.lt_of_lt_of_le h.lt hb.size, fun q hq => (h.acc q hq).below hb, h.nd, h.rng, h.num⟩
theorem told_perm (ds : List AccD) : (told ds).Perm (ds.map sK) := srt_perm _ _
theorem told_up {ds : List AccD} (h : (ds.map (·.id)).Nodup) : Up (fun d : AccD => d.id) (told ds) := srt_up _ _ (by rw [List.map_map]; exact h)
set_option maxRecDepth 100000 in
set_option maxHeartbeats 1000000 in
theorem accounts19 (L : List (AccD × Nat)) (pl : Nat) (w : World) (h : LedgerAt w pl L) :
    Calls TryQ.prog 19 #[.pointer (some ⟨pl, 0, none⟩)] w fun e w' => ∃ v os, e = .returned (.slice v.a v.n v.c) ∧ Below w.heap.size w w' ∧ Lists w.heap.size w' v os ∧ os.map (·.1) = told (L.map (·.1)) := by
  obtain ⟨i31, z31, hi31, hz31, hs31, hb31, hzs31⟩ := info31
  obtain ⟨ma, hpl, hM⟩ := h.ex
  have hplt := h.lt
  have hnum := h.num
  have hll : (ledL L).length = L.length := by simp [ledL]
  have hlen := run_lenMap u82 hM.mapL
  rw [hll] at hlen
  obtain ⟨w1, hmk, hown1, hg1⟩ := run_make_own (P := TryQ.prog) w w.heap.size 22 31 i31 z31 8 ((q_underlying 22).trans Tryz.underlying22) hi31 hz31 hs31 .i64 .i64 L.length (by rw [hb31]; omega) (by simp [maxLen]; omega) (Nat.le_refl _)
  have hb1 : Below w.heap.size w w1 := ⟨hg1.os, hg1.tape, hg1.output, hg1.size, fun k hk => hg1.block k hk (by simp)⟩
  have hpl1 := (hb1.cell (p := ⟨pl, 0, none⟩) hplt).trans hpl
  have hgl1 : w.heap.size < w1.heap.size := own_lt hown1 _ rfl
  go_enter TryQ.func19, Tryz.ntmps19
  go_wp2_with fail
  refine (keys31 (some ma) w1).mono ?_
  rintro e w2 ⟨rfl, hw2⟩
  have hb2 : Below w1.heap.size w1 w2 := by rw [hw2]; exact (Below.refl _ _).alloc (Nat.le_refl _) _
  have hBm : w2.cell? ⟨w1.heap.size, 0, none⟩ = some (.map (some ma)) := by rw [hw2, World.cell?_alloc_new]; rfl
  have hBl : w1.heap.size < w2.heap.size := by rw [hw2]; simp
  have hM2 := (hM.below hb1).below hb2
  have hso := sorted30 w1.heap.size ma (ledL L) w2 hBl hBm hM2 (by rw [ledL_keys]; exact h.nd) (fun p hp => by obtain ⟨q, hq, rfl⟩ := List.mem_map.1 hp; have := h.rng q hq; show _ ≤ q.1.id ∧ q.1.id ≤ _; omega) (by rw [hll]; omega)
  have hown2 := own_below hown1 hb2
  clear hw2
  go_wp2_with fail
  refine hso.mono ?_
  rintro e w3 ⟨vi, ks, rfl, hperm, hup, hrow, hbs⟩
  rw [ledL_keys] at hperm
  obtain ⟨T, hT⟩ : ∃ T, told (L.map (·.1)) = T := ⟨_, rfl⟩
  have hTp : T.Perm ((L.map (·.1)).map sK) := by rw [← hT]; exact told_perm _
  have hids : (L.map (·.1)).map (·.id) = L.map (·.1.id) := by rw [List.map_map]; rfl
  have hTu : Up (fun d : AccD => d.id) T := by rw [← hT]; exact told_up (by rw [hids]; exact h.nd)
  have hksT : ks = T.map (·.id) := by
    refine up_unique (f := id) (hperm.trans ?_) hup (List.pairwise_map.2 hTu)
    have := hTp.map (·.id)
    rw [List.map_map, List.map_map] at this
    exact this.symm
  have hTl : T.length = L.length := by have := hTp.length_eq; simpa using this
  have hkl : Shut (ks.length = L.length) := by rw [hksT]; simpa [Shut] using hTl
  have hb3 : Below w.heap.size w w3 := (hb1.trans (hb2.mono hb1.size)).trans (hbs.mono (by have := hb1.size; have := hb2.size; omega))
  have hown3 := own_below hown2 hbs
  have hL0 : ∀ W, W.ownsRow w.heap.size 31 8 (.slice (some ⟨w.heap.size, 0, none⟩) 0 L.length) 0 [] → Lists w.heap.size W ⟨some ⟨w.heap.size, 0, none⟩, 0, L.length⟩ [] := fun W hW => ⟨hW, (fun p hp => by cases hp), (fun p hp => by cases hp), List.Pairwise.nil⟩
  rcases hrow.2 with ⟨rfl, h0⟩ | ⟨g, cap, cur, rfl, hgb, hgo, _, _, _, _⟩
  · have hl0 : L.length = 0 := by rw [← hkl.out]; exact h0
    have hT0 : T = [] := List.eq_nil_of_length_eq_zero (by omega)
    have hL00 : Lists w.heap.size w3 ⟨some ⟨w.heap.size, 0, none⟩, 0, 0⟩ [] := by have := hL0 w3 hown3; rw [hl0] at this; exact this
    go_wp2_with fail
    go_loopw [3, 19] (fun lv i W => lv = .slice (some ⟨w.heap.size, 0, none⟩) 0 0 ∧ i = .int .i64 0 ∧ W = w3) (fun _ _ _ => 0)
    case atStart => exact ⟨rfl, rfl, rfl⟩
    case round =>
      obtain ⟨rfl, rfl, rfl⟩ := hrel
      go_wp2_with fail
      simp only [bodyPost, results, Tryz.results19, go_sem]
      simp
      refine ⟨⟨some ⟨w.heap.size, 0, none⟩, 0, 0⟩, by simp, hb3, [], hL00, ?_⟩
      rw [hT, hT0]; rfl
  · have hcs : ∀ i x, ks[i]? = some x → w3.cell? ⟨g, i, none⟩ = some (.int .i64 x) := fun i x hx => by
      rw [hrow.cellAt i (by have := (List.getElem?_eq_some_iff.1 hx).1; omega), List.getElem?_map, hx]; rfl
    have hg3 : g < w3.heap.size := (Array.getElem?_eq_some_iff.1 hgo).1
    rw [hkl.out]
    clear hrow hgo
    go_wp2_with fail
    go_loopw [3, 19] (fun lv i W => ∃ (k : Nat) (vL : SV) (os : List (AccD × SV)), lv = .slice vL.a vL.n vL.c ∧ i = .int .i64 k ∧ k ≤ L.length ∧ Below w.heap.size w W ∧ (∀ i x, ks[i]? = some x → W.cell? ⟨g, i, none⟩ = some (.int .i64 x)) ∧ Lists w.heap.size W vL os ∧ os.map (·.1) = T.take k ∧ vL.blk ≠ some g ∧ g < W.heap.size) (fun _ i _ => L.length - (Go.RowKit.intOf i).toNat)
    case atStart => exact ⟨0, ⟨some ⟨w.heap.size, 0, none⟩, 0, L.length⟩, [], rfl, rfl, Nat.zero_le _, hb3, hcs, hL0 _ hown3, rfl, (by intro e; have e' : w.heap.size = g := Option.some.inj e; omega), hg3⟩
    case round =>
      obtain ⟨k, vL, os, rfl, rfl, hkk, hb, hcW, hLs, hos, hne, hgW⟩ := hrel
      by_cases hlt : k < L.length
      · have hlt' : (k : Int) < (L.length : Int) := by omega
        have hlp : k < T.length := by omega
        have hkk2 : ks[k]? = some T[k].id := by rw [hksT]; simp [hlp]
        have hc := hcW k _ hkk2
        have hmem := hTp.mem_iff.1 (List.getElem_mem hlp)
        obtain ⟨d, hd, hde⟩ := List.mem_map.1 hmem
        obtain ⟨q, hq, rfl⟩ := List.mem_map.1 hd
        have htake : T.take (k + 1) = T.take k ++ [sK q.1] := by rw [hde]; exact (List.take_append_getElem hlp).symm
        have hidk : T[k].id = q.1.id := by rw [← hde]; rfl
        rw [hidk] at hc
        have hcS : Shut (∀ i x, ks[i]? = some x → wr.cell? ⟨g, i, none⟩ = some (.int .i64 x)) := hcW
        clear hde hmem hd hidk hkk2 hcW hksT hcs
        obtain ⟨jf, hfind⟩ := find_led L 0 q h.nd hq
        have hMr := hM.below hb
        have hlk : (Instr.lookup 82 (.map (some ma)) (.int .i64 q.1.id) false).run TryQ.prog wr = .ok (.pointer (some ⟨q.2, 0, none⟩)) wr := by
          have := run_lookup intKeys u82 (z := .pointer none) hMr.mapL (k := q.1.id) trivial (fun _ _ => trivial) (fun w => (q_run_zeroValue 87 w).trans (Tryz.zeroValue87 w))
          rw [hfind] at this
          exact this
        have hplr := (hb.cell (p := ⟨pl, 0, none⟩) hplt).trans hpl
        have hte := tell32 q.1 q.2 wr ((h.acc q hq).below hb)
        have hlo := own_lt hLs.own
        go_wp2_with fail
        refine hte.mono ?_
        rintro e w4 ⟨v, rfl, hsl, hb4⟩
        have hL4 := hLs.below hb4
        have hac : accCells (sK q.1) v = accCells q.1 v := rfl
        rw [hac]
        have hbx : Below w4.heap.size w4 (w4.alloc (.cells (accCells q.1 v).toArray 31)) := (Below.refl _ _).alloc (Nat.le_refl _) _
        have hL5 := hL4.below hbx
        have hsl5 := own_below hsl hbx
        have hn5 := cells_new w4 (accCells q.1 v) 31
        have hs45 := hb4.size
        have hol : os.length = k := by have := congrArg List.length hos; simp at this; omega
        have hown5 := hL5.own
        rw [hol] at hown5
        have hbw4 := hb.trans (hb4.mono hb.size)
        clear hac
        unfold accCells
        go_wp2_with (at_builtin; go_loud (refine wpList_append_lies _ (by rfl) _ _ 22 (by rfl) w.heap.size 31 i31 z31 8 88 ((q_underlying 22).trans Tryz.underlying22) hi31 hz31 hs31 hb31 hzs31 (by omega) (.slice vL.a vL.n vL.c) k (flatA os) (by rfl) hown5 ⟨w4.heap.size, 0, none⟩ 1 1 (accCells q.1 v) (by rfl) rfl (fun j v hj => by rw [Addr.add_mid]; exact hn5 j v hj) (fun u hu => acc_one _ _ u hu) (by omega) (by simp [maxLen]; omega) (by omega) (by have := hbw4.size; simp; omega) (w4.heap.size + 1) (by simp) ?_))
        intro g2 n2 w5 hown6 hgrow hat hlt5
        have hb6 : Below w.heap.size w w5 := (hbw4.trans (hbx.mono hbw4.size)).trans (gb_to_below hgrow (own_ge hown5) (by have := hbw4.size; simp; omega))
        have hc6 : ∀ i x, ks[i]? = some x → w5.cell? ⟨g, i, none⟩ = some (.int .i64 x) := fun i x hx => by
          refine (hgrow.cell_far ⟨g, i, none⟩ (by show g < _; simp; omega) (fun e => hne e.symm)).trans ?_
          refine (hbx.cell (p := ⟨g, i, none⟩) (by show g < _; omega)).trans ?_
          exact (hb4.cell (p := ⟨g, i, none⟩) hgW).trans (hcS.out i x hx)
        have hvb : ∀ g', v.blk = some g' → wr.heap.size ≤ g' ∧ g' < w4.heap.size := fun g' e => ⟨own_ge hsl g' e, own_lt hsl g' e⟩
        have hL6 : Lists w.heap.size w5 ⟨some ⟨g2, 0, none⟩, k + 1, n2⟩ (os ++ [(sK q.1, v)]) := by
          refine ⟨?_, fun p hp => ?_, fun p hp g' e1 e2 => ?_, ?_⟩
          · have hl : (os ++ [(sK q.1, v)]).length = k + 1 := by simp [hol]
            rw [hl, flatA_append, flatA, flatA, List.append_nil]; exact hown6
          · rcases List.mem_append.1 hp with hp | hp
            · exact own_grown (hL5.sl p hp) hgrow (hL5.far p hp)
            · rw [List.mem_singleton.1 hp]
              exact own_grown (own_base hsl5 hb.size) hgrow (fun g' e1 e2 => by have := (hvb g' e1).1; have := hlo g' e2; omega)
          · have e' : g2 = g' := Option.some.inj e2
            rcases List.mem_append.1 hp with hp | hp
            · rcases hat with hat | hat
              · exact hLs.far p hp g' e1 (by rw [← e']; exact hat)
              · have := own_lt (hLs.sl p hp) g' e1; omega
            · rw [List.mem_singleton.1 hp] at e1
              have h3 := hvb g' e1
              rcases hat with hat | hat
              · have := hlo g2 hat; omega
              · omega
          · refine List.pairwise_append.2 ⟨hLs.apart, List.pairwise_singleton _ _, fun p hp r hr g' e1 e2 => ?_⟩
            rw [List.mem_singleton.1 hr] at e2
            have := own_lt (hLs.sl p hp) g' e1
            have := (hvb g' e2).1
            omega
        have hne6 : (SV.mk (some ⟨g2, 0, none⟩) (k + 1) n2).blk ≠ some g := fun e => by
          have e' : g2 = g := Option.some.inj e
          rcases hat with hat | hat
          · exact hne (by rw [← e']; exact hat)
          · omega
        have hg6 : g < w5.heap.size := by have := hgrow.size; simp at this; omega
        have hos6 : (os ++ [(sK q.1, v)]).map (·.1) = T.take (k + 1) := by rw [htake, List.map_append, hos]; rfl
        clear hown6 hgrow hat hlt5 hlk hMr hplr hc
        go_wp2_with fail
        refine ⟨⟨k + 1, _, _, rfl, by go_num, by omega, hb6, hc6, hL6, hos6, hne6, hg6⟩, ?_⟩
        simp [Go.RowKit.intOf]; omega
      · have hk' : k = L.length := by omega
        subst hk'
        go_wp2_with fail
        simp only [bodyPost, results, Tryz.results19, go_sem]
        simp
        refine ⟨vL, by simp, hb, os, hLs, ?_⟩
        rw [hos, hT, ← hTl, List.take_length]
set_option maxRecDepth 100000 in
set_option maxHeartbeats 1000000 in
/-- World.Accounts -/
theorem accounts13 (L : List (AccD × Nat)) (pw pl : Nat) (w : World) (hw : w.cell? ⟨pw, 0, none⟩ = some (.pointer (some ⟨pl, 0, none⟩))) (h : LedgerAt w pl L) :
    Calls TryQ.prog 13 #[.pointer (some ⟨pw, 0, none⟩)] w fun e w' => ∃ v os, e = .returned (.slice v.a v.n v.c) ∧ Below w.heap.size w w' ∧ Lists w.heap.size w' v os ∧ os.map (·.1) = told (L.map (·.1)) := by
  have hac := accounts19 L pl w h
  go_enter TryQ.func13, Tryz.ntmps13
  go_wp2_with fail
  refine hac.mono ?_
  rintro e w1 ⟨v, os, rfl, hb, hL, hos⟩
  go_wp2_with fail
  go_ret
  exact ⟨v, os, rfl, hb, hL, hos⟩
end Go.Mark
/-
 ledger.keptSlots (27), with the stamps; strings.Clone (26).
-/
namespace Go.Mark
open Go.RowKit Go.Proofs
set_option maxRecDepth 100000 in
set_option maxHeartbeats 2000000 in
theorem keptSlotsB (ss : List (Nat × Nat)) (b cap : Nat) (w : World) (hA : SlotsAt w b ss) (hn : ss.length < 2199023255552) (hm : ∀ p ∈ ss, p.1 < M ∧ p.2 < M) (hnd : (ss.map (·.1)).Nodup) :
  Calls TryQ.prog 27 #[.slice (some ⟨b, 0, none⟩) ss.length cap] w fun e w' => e = .returned (.map (some w.heap.size)) ∧ MapB wd w' w.heap.size (keptL ss) ∧ Below w.heap.size w w' ∧ w.heap.size < w'.heap.size := by
 have u91 : TryQ.prog.underlying 91 = some (.map 28 28) := (q_underlying 91).trans Tryz.underlying91
 have hmk := fun W => run_mkMap0 (mt := 91) W
 go_enter TryQ.func27, Tryz.ntmps27
 go_wp2
 go_loopw [9] (fun i wr => ∃ k : Nat, i = .int .i64 k ∧ k ≤ ss.length ∧ MapB wd wr w.heap.size (keptL (ss.take k)) ∧ Below w.heap.size w wr ∧ w.heap.size < wr.heap.size) (fun i _ => ss.length - (Go.RowKit.intOf i).toNat)
 case atStart =>
  exact ⟨0, rfl, Nat.zero_le _, MapB.new wd w, (Below.refl _ _).alloc (Nat.le_refl _) _, by simp⟩
 case round =>
  obtain ⟨k, rfl, hk, hM, hB, hsz⟩ := hrel
  by_cases hlt : k < ss.length
  ·have hlt' : (k : Int) < (ss.length : Int) := by omega
   have hA' := (hA.below hB) k ss[k] (List.getElem?_eq_getElem hlt)
   have c0 := hA' 0 _ rfl
   have c1 := hA' 1 _ rfl
   have c2 := hA' 2 _ rfl
   have c3 := hA' 3 _ rfl
   have c4 := hA' 4 _ rfl
   have c5 := hA' 5 _ rfl
   have c6 := hA' 6 _ rfl
   have c7 := hA' 7 _ rfl
   rw [Nat.add_zero] at c0
   clear hA'
   have hmk' := hm _ (List.getElem_mem hlt)
   have hq := eqz ss[k].2 hmk'.2
   unfold wd at hq
   have hs' : w.heap.size < (wr.alloc (.cells (slotCells ss[k]).toArray 57)).heap.size := by simp; omega
   have hBa := hB.alloc (Nat.le_of_lt hsz) (.cells (slotCells ss[k]).toArray 57)
   by_cases h0 : ss[k].2 = 0
   ·have hk0 : Shut (ss[k].2 = 0) := h0
    rw [decide_eq_true h0] at hq
    clear h0
    go_wp2
    refine ⟨⟨k + 1, by go_num, by omega, ?_, hBa, hs'⟩, ?_⟩
    ·unfold keptL
     rw [kept_skip ss k hlt hk0.out]
     exact hM.below ((Below.refl _ _).alloc (Nat.le_refl _) _)
    ·simp [Go.RowKit.intOf]; omega
   ·have hk0 : Shut (¬ ss[k].2 = 0) := h0
    rw [decide_eq_false h0] at hq
    clear h0
    go_wp2
    refine upon_mapUpdateB wordKeys u91 (k := ss[k].1) (v := wd ss[k].2) (hM.below ((Below.refl _ _).alloc (Nat.le_refl _) _)) hmk'.1 (fun p hp => by
     obtain ⟨q, hq, e⟩ := keptL_mem _ p.1 (List.mem_map_of_mem hp)
     rw [← e]
     exact (hm q (List.mem_of_mem_take hq)).1) (fun o' hM' => ?_)
    have hB' := below_setMap hBa (Nat.le_refl _) o'
    rw [updL_new] at hM'
    rotate_left
    ·intro h
     obtain ⟨q, hq, e⟩ := keptL_mem _ _ h
     obtain ⟨i, hi, rfl⟩ := List.mem_iff_getElem.1 hq
     have hi' : i < k := by simp at hi; omega
     have h1 := List.pairwise_iff_getElem.1 hnd i k (by simp; omega) (by simpa using hlt) hi'
     simp at h1
     simp at e
     exact h1 e
    have e : keptL (ss.take k) ++ [(ss[k].1, wd ss[k].2)] = keptL (ss.take (k + 1)) := by
     unfold keptL
     rw [kept_snoc ss k hlt hk0.out, List.map_append]
     rfl
    rw [e] at hM'
    go_wp2
    go_roundw
    case rel =>
     exact ⟨k + 1, by go_num, by omega, hM', hB', by simpa using hs'⟩
    case measure => simp [Go.RowKit.intOf]; omega
  ·have hk' : k = ss.length := by omega
   subst hk'
   rw [List.take_length] at hM
   go_wp2
   simp [bodyPost, results, Tryz.results27, go_sem]
   exact ⟨hM, hB, hsz⟩
end Go.Mark
/-
  Laying: strings.Clone, at the stripped program.
-/
namespace Go.Proofs
open Go.Mark Go.RowKit Go.Shelf
def TryQ.clone_ren : Go.Shelf.Ren := ⟨fun | 316 => 40 | n => n, fun | 9 => 9 | 3 => 3 | 4 => 4 | 37 => 137 | 0 => 0 | 127 => 138 | 5 => 5 | n => n, fun | n => n⟩
theorem TryQ.clone : Go.Proofs.LaysM.n316 TryQ.prog TryQ.clone_ren where
  mixed := by kernel_rfl
  f316 := TryQ.func40.trans (congrArg some (by kernel_rfl))
  t0 := (q_underlying 0).trans Tryz.underlying0
  a0 := fun w => (q_run_isAgg 0 w).trans (Tryz.isAgg0 w)
  z0 := fun w => (q_run_sizeOf 0 w).trans (Tryz.sizeOf0 w)
  v0 := fun w => (q_run_zeroValue 0 w).trans (Tryz.zeroValue0 w)
  t3 := (q_underlying 3).trans Tryz.underlying3
  a3 := fun w => (q_run_isAgg 3 w).trans (Tryz.isAgg3 w)
  z3 := fun w => (q_run_sizeOf 3 w).trans (Tryz.sizeOf3 w)
  v3 := fun w => (q_run_zeroValue 3 w).trans (Tryz.zeroValue3 w)
  t4 := (q_underlying 4).trans Tryz.underlying4
  a4 := fun w => (q_run_isAgg 4 w).trans (Tryz.isAgg4 w)
  z4 := fun w => (q_run_sizeOf 4 w).trans (Tryz.sizeOf4 w)
  v4 := fun w => (q_run_zeroValue 4 w).trans (Tryz.zeroValue4 w)
  t9 := (q_underlying 9).trans Tryz.underlying9
  a9 := fun w => (q_run_isAgg 9 w).trans (Tryz.isAgg9 w)
  z9 := fun w => (q_run_sizeOf 9 w).trans (Tryz.sizeOf9 w)
  v9 := fun w => (q_run_zeroValue 9 w).trans (Tryz.zeroValue9 w)
  t37 := (q_underlying 137).trans Tryz.underlying137
  a37 := fun w => (q_run_isAgg 137 w).trans (Tryz.isAgg137 w)
  z37 := fun w => (q_run_sizeOf 137 w).trans (Tryz.sizeOf137 w)
  v37 := fun w => (q_run_zeroValue 137 w).trans (Tryz.zeroValue137 w)
  t127 := (q_underlying 138).trans Tryz.underlying138
  a127 := fun w => (q_run_isAgg 138 w).trans (Tryz.isAgg138 w)
  z127 := fun w => (q_run_sizeOf 138 w).trans (Tryz.sizeOf138 w)
  v127 := fun w => (q_run_zeroValue 138 w).trans (Tryz.zeroValue138 w)
  t5 := (q_underlying 5).trans Tryz.underlying5
  a5 := fun w => (q_run_isAgg 5 w).trans (Tryz.isAgg5 w)
  z5 := fun w => (q_run_sizeOf 5 w).trans (Tryz.sizeOf5 w)
  v5 := fun w => (q_run_zeroValue 5 w).trans (Tryz.zeroValue5 w)
  i0 := by kernel_rfl
  i3 := by kernel_rfl
  i4 := by kernel_rfl
  i5 := by kernel_rfl
  i9 := by kernel_rfl
  i37 := by kernel_rfl
  i127 := by kernel_rfl
set_option maxRecDepth 100000 in
theorem clone26 (s : ByteArray) (w : World) (h : s.size ≤ 281474976710656) : Calls TryQ.prog 26 #[.string s] w fun e w' => e = .returned (.string s) ∧ Below w.heap.size w w' := by
  have hc := Any.stringslite_Clone TryQ.clone s w h
  change Calls TryQ.prog 40 _ _ _ at hc
  go_enter TryQ.func26, Tryz.ntmps26
  go_wp2_with fail
  refine hc.mono ?_
  rintro e w1 ⟨rfl, hb⟩
  go_wp2_with fail
  go_ret
  exact ⟨rfl, hb⟩
end Go.Proofs
