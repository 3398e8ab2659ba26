import Derived.Test.YtbephahokhnccaaGreatDoorXH3toH4
set_option linter.unusedSectionVars false
set_option maxRecDepth 100000
set_option maxHeartbeats 4000000
namespace Go.Mark
open Go.RowKit Go.Proofs
attribute [local go_sem] wd
theorem diffKeysR (ss : List (Nat × Nat)) (a : Option Addr) (cap : Nat) (w : World) (hA : ss = [] \/ ∃ b o, a = some ⟨b, o, none⟩ /\ SlotsFrom w b o ss) (hn : ss.length < 2199023255552) (hm : ∀ p ∈ ss, p.1 < M) :
  Calls TryQ.prog 95 #[.slice a ss.length cap] w fun e w' => e = .returned (.bool (decide (ss.map (·.1)).Nodup)) /\ Below w.heap.size w w' := by
 have u122 : TryQ.prog.underlying 233 = some (.map 41 179) := (q_underlying 233).trans Tryz.underlying233
 have hmk := fun W => run_mkMap u122 ss.length W
 go_enter TryQ.func95, Tryz.ntmps95
 go_wp2
 go_loopw [11] (fun i wr => ∃ k : Nat, i = .int .i64 k /\ k <= ss.length /\ MapL wd wr w.heap.size (setL (.agg #[]) ((ss.take k).map (·.1))) /\ Below w.heap.size w wr /\ w.heap.size < wr.heap.size) (fun i _ => ss.length - (Go.RowKit.intOf i).toNat)
 case atStart =>
  exact ⟨0, rfl, Nat.zero_le _, ⟨#[], 0, by show (w.heap.push _)[w.heap.size]? = _; rw [Array.getElem?_push_size], rfl⟩, ba, by simp⟩
 case round =>
  obtain ⟨k, rfl, hk, hM, hB, hsz⟩ := hrel
  by_cases hlt : k < ss.length
  ·have hlt' : (k : Int) < (ss.length : Int) := by omega
   obtain ⟨b, o, rfl, hA2⟩ := hA.resolve_left (fun h => by subst h; simp at hlt)
   have hA' := (hA2.below hB) k ss[k] (List.getElem?_eq_getElem hlt)
   have c0 := hA' 0 _ rfl
   have c1 := hA' 1 _ rfl
   have c2 := hA' 2 _ rfl
   have c3 := hA' 3 _ rfl
   have c4 := hA' 4 _ rfl
   have c5 := hA' 5 _ rfl
   have c6 := hA' 6 _ rfl
   have c7 := hA' 7 _ rfl
   rw [Nat.add_zero] at c0
   clear hA'
   go_wp2
   refine upon_mapUpdate wordKeys u122 (k := ss[k].1) (hM.alloc _) (hm _ (List.getElem_mem hlt)) (setL_sub (ok := (· < M)) _ _ (fun x hx => by obtain ⟨p, hp, rfl⟩ := List.mem_map.1 hx; exact hm p (List.mem_of_mem_take hp))) (fun o' hM' => ?_)
   have hB' := below_setMap ((hB.alloc (Nat.le_of_lt hsz) (.cells (slotCells ss[k]).toArray 72))) (Nat.le_refl _) o'
   rw [<- setL_snoc, take_map (fun p : Nat × Nat => p.1) ss k hlt] at hM'
   have hs' : w.heap.size < (wr.heap.push (.cells (slotCells ss[k]).toArray 72)).size := by simp; omega
   go_wp2
   go_roundw
   case rel =>
    exact ⟨k + 1, by go_num, by omega, hM', hB', by simpa using hs'⟩
   case measure => simp [Go.RowKit.intOf]; omega
  ·have hk' : k = ss.length := by omega
   subst hk'
   rw [List.take_length] at hM
   have hlen := run_lenMap u122 hM
   go_wp2
   have hnd := setL_len (Value.agg #[]) (ss.map (·.1))
   rw [List.length_map] at hnd
   have hbb : ((↑(setL (Value.agg #[]) (List.map (fun x => x.fst) ss)).length : Int) == (↑ss.length : Int)) = decide (ss.map (·.1)).Nodup := by
    rw [Bool.eq_iff_iff, beq_iff_eq, decide_eq_true_iff, <- hnd.2]
    omega
   simp [bodyPost, results, Tryz.results95, go_sem]
   exact ⟨by rw [hbb], hB⟩
theorem allowedAccR (d : AccD) (sv : SV) (w : World) (hS : d.slots = [] \/ ∃ bs os, sv.a = some ⟨bs, os, none⟩ /\ SlotsFrom w bs os d.slots) (hn : d.slots.length < 2199023255552) (hm : ∀ p ∈ d.slots, p.1 < M) :
  Calls TryQ.prog 57 #[.agg (accCells d ⟨sv.a, d.slots.length, sv.c⟩).toArray] w fun e w' => e = .returned (.bool (decide (AccOk d))) /\ Below w.heap.size w w' := by
 unfold accCells
 have hB : ∀ o, Below w.heap.size w (w.alloc o) := fun o => (Below.refl _ _).alloc (Nat.le_refl _) o
 by_cases h1 : 1 <= d.id
 rotate_left
 ·have ho : decide (AccOk d) = false := decide_eq_false (fun h => absurd h.1 h1)
  rw [ho]
  go_enter TryQ.func57, Tryz.ntmps57
  go_wp2
  go_ret
  exact ⟨rfl, hB _⟩
 by_cases h2 : d.id <= 999999
 rotate_left
 ·have ho : decide (AccOk d) = false := decide_eq_false (fun h => absurd h.2.1 h2)
  rw [ho]
  go_enter TryQ.func57, Tryz.ntmps57
  go_wp2
  go_ret
  exact ⟨rfl, hB _⟩
 by_cases h3 : 0 <= d.nonce
 rotate_left
 ·have ho : decide (AccOk d) = false := decide_eq_false (fun h => absurd h.2.2.1 h3)
  rw [ho]
  go_enter TryQ.func57, Tryz.ntmps57
  go_wp2
  go_ret
  exact ⟨rfl, hB _⟩
 by_cases h4 : d.nonce <= 4611686018427387904
 rotate_left
 ·have ho : decide (AccOk d) = false := decide_eq_false (fun h => absurd h.2.2.2.1 h4)
  rw [ho]
  go_enter TryQ.func57, Tryz.ntmps57
  go_wp2
  go_ret
  exact ⟨rfl, hB _⟩
 by_cases h5 : (d.code.size : Int) <= 2000
 rotate_left
 ·have ho : decide (AccOk d) = false := decide_eq_false (fun h => absurd h.2.2.2.2.1 h5)
  rw [ho]
  go_enter TryQ.func57, Tryz.ntmps57
  go_wp2
  go_ret
  exact ⟨rfl, hB _⟩
 by_cases h6 : (d.slots.length : Int) <= 64
 rotate_left
 ·have ho : decide (AccOk d) = false := decide_eq_false (fun h => absurd h.2.2.2.2.2.1 h6)
  rw [ho]
  go_enter TryQ.func57, Tryz.ntmps57
  go_wp2
  go_ret
  exact ⟨rfl, hB _⟩
 have hk : decide (AccOk d) = decide (d.slots.map (·.1)).Nodup := by
  by_cases h7 : (d.slots.map (·.1)).Nodup
  ·have hA : AccOk d := ⟨h1, h2, h3, h4, h5, h6, h7⟩
   rw [decide_eq_true h7, decide_eq_true hA]
  ·have hA : ¬ AccOk d := fun h => h7 h.2.2.2.2.2.2
   rw [decide_eq_false h7, decide_eq_false hA]
 rw [hk]
 go_enter TryQ.func57, Tryz.ntmps57
 go_wp2_with (go_at_call 95; refine (diffKeysR d.slots sv.a sv.c _ (hS.imp id fun ⟨b, o, h1, h2⟩ => ⟨b, o, h1, h2.below (hB _)⟩) hn hm).mono ?_; rintro e w' ⟨rfl, hb⟩)
 simp [bodyPost, results, Tryz.results57, go_sem]
 exact (hB _).trans (hb.mono (hB _).size)
theorem diffIDsR (ds : List (AccD × SV)) (a : Option Addr) (cap : Nat) (w : World) (hA : ds = [] \/ ∃ b o, a = some ⟨b, o, none⟩ /\ AccsAt w b o ds) (hn : ds.length < 2199023255552) :
  Calls TryQ.prog 58 #[.slice a ds.length cap] w fun e w' => e = .returned (.bool (decide (ds.map (·.1.id)).Nodup)) /\ Below w.heap.size w w' := by
 have u83 : TryQ.prog.underlying 125 = some (.map 3 179) := (q_underlying 125).trans Tryz.underlying125
 have hmk := fun W => run_mkMap u83 ds.length W
 go_enter TryQ.func58, Tryz.ntmps58
 go_wp2
 go_loopw [11] (fun i wr => ∃ k : Nat, i = .int .i64 k /\ k <= ds.length /\ MapL (fun x : Int => Value.int .i64 x) wr w.heap.size (setL (.agg #[]) ((ds.take k).map (·.1.id))) /\ Below w.heap.size w wr /\ w.heap.size < wr.heap.size) (fun i _ => ds.length - (Go.RowKit.intOf i).toNat)
 case atStart =>
  exact ⟨0, rfl, Nat.zero_le _, ⟨#[], 0, by show (w.heap.push _)[w.heap.size]? = _; rw [Array.getElem?_push_size], rfl⟩, ba, by simp⟩
 case round =>
  obtain ⟨k, rfl, hk, hM, hB, hsz⟩ := hrel
  by_cases hlt : k < ds.length
  ·have hlt' : (k : Int) < (ds.length : Int) := by omega
   obtain ⟨b, o, rfl, hA2⟩ := hA.resolve_left (fun h => by subst h; simp at hlt)
   have hA' := (hA2.below hB) k ds[k] (List.getElem?_eq_getElem hlt)
   have c0 := hA' 0 _ rfl
   have c1 := hA' 1 _ rfl
   have c2 := hA' 2 _ rfl
   have c3 := hA' 3 _ rfl
   have c4 := hA' 4 _ rfl
   have c5 := hA' 5 _ rfl
   have c6 := hA' 6 _ rfl
   have c7 := hA' 7 _ rfl
   rw [Nat.add_zero] at c0
   clear hA'
   go_wp2
   refine upon_mapUpdate intKeys u83 (k := ds[k].1.id) (hM.alloc _) trivial (fun _ _ => trivial) (fun o' hM' => ?_)
   have hB' := below_setMap ((hB.alloc (Nat.le_of_lt hsz) (.cells #[.int .i64 ds[k].1.id, .int .u64 (lim ds[k].1.bal 0), .int .u64 (lim ds[k].1.bal 1), .int .u64 (lim ds[k].1.bal 2), .int .u64 (lim ds[k].1.bal 3), .int .i64 ds[k].1.nonce, .string ds[k].1.code, .slice ds[k].2.a ds[k].2.n ds[k].2.c] 52))) (Nat.le_refl _) o'
   rw [<- setL_snoc, take_map (fun p : AccD × SV => p.1.id) ds k hlt] at hM'
   have hs' : w.heap.size < (wr.heap.push (.cells #[.int .i64 ds[k].1.id, .int .u64 (lim ds[k].1.bal 0), .int .u64 (lim ds[k].1.bal 1), .int .u64 (lim ds[k].1.bal 2), .int .u64 (lim ds[k].1.bal 3), .int .i64 ds[k].1.nonce, .string ds[k].1.code, .slice ds[k].2.a ds[k].2.n ds[k].2.c] 52)).size := by simp; omega
   go_wp2
   go_roundw
   case rel =>
    exact ⟨k + 1, by go_num, by omega, hM', hB', by simpa using hs'⟩
   case measure => simp [Go.RowKit.intOf]; omega
  ·have hk' : k = ds.length := by omega
   subst hk'
   rw [List.take_length] at hM
   have hlen := run_lenMap u83 hM
   go_wp2
   have hnd := setL_len (Value.agg #[]) (ds.map (·.1.id))
   rw [List.length_map] at hnd
   have hbb : ((↑(setL (Value.agg #[]) (List.map (fun x => x.fst.id) ds)).length : Int) == (↑ds.length : Int)) = decide (ds.map (·.1.id)).Nodup := by
    rw [Bool.eq_iff_iff, beq_iff_eq, decide_eq_true_iff, <- hnd.2]
    omega
   simp [bodyPost, results, Tryz.results58, go_sem]
   exact ⟨by rw [hbb], hB⟩
theorem payableR (ds : List (AccD × SV)) (a : Option Addr) (cap : Nat) (w : World) (hA : ds = [] \/ ∃ b o, a = some ⟨b, o, none⟩ /\ AccsAt w b o ds) (hn : ds.length < 2199023255552) (hm : ∀ p ∈ ds, p.1.bal < M) :
  Calls TryQ.prog 59 #[.slice a ds.length cap] w fun e w' => e = .returned (.bool (decide (total ds < M))) /\ Below w.heap.size w w' := by
 go_enter TryQ.func59, Tryz.ntmps59
 go_wp2
 go_loopw [9] (fun i wr => ∃ k : Nat, i = .int .i64 k /\ k <= ds.length /\ total (ds.take k) < M /\ R4 wr w.heap.size (total (ds.take k)) /\ Below w.heap.size w wr) (fun i _ => ds.length - (Go.RowKit.intOf i).toNat)
 case atStart =>
  refine ⟨0, rfl, Nat.zero_le _, (by decide : (0 : Nat) < M), ?_, ba⟩
  have e : total (ds.take 0) = 0 := rfl
  rw [e]
  have hb : (w.alloc (.cells #[.int .u64 0, .int .u64 0, .int .u64 0, .int .u64 0] 41)).heap[w.heap.size]? = some (.cells #[.int .u64 0, .int .u64 0, .int .u64 0, .int .u64 0] 41) := by show (w.heap.push _)[w.heap.size]? = _; rw [Array.getElem?_push_size]
  constructor
  iterate 4 simp only [World.cell?, hb]; rfl
  ·intro j; simp only [World.frozen?, hb]; simp
  ·simp
 case round =>
  obtain ⟨k, rfl, hk, ht, hR, hB⟩ := hrel
  by_cases hlt : k < ds.length
  ·have hlt' : (k : Int) < (ds.length : Int) := by omega
   obtain ⟨b, o, rfl, hA2⟩ := hA.resolve_left (fun h => by subst h; simp at hlt)
   have hA' := (hA2.below hB) k ds[k] (List.getElem?_eq_getElem hlt)
   have c0 := hA' 0 _ rfl
   have c1 := hA' 1 _ rfl
   have c2 := hA' 2 _ rfl
   have c3 := hA' 3 _ rfl
   have c4 := hA' 4 _ rfl
   have c5 := hA' 5 _ rfl
   have c6 := hA' 6 _ rfl
   have c7 := hA' 7 _ rfl
   rw [Nat.add_zero] at c0
   clear hA'
   obtain ⟨r0, r1, r2, r3, rf, rlt⟩ := hR
   have hbk := hm _ (List.getElem_mem hlt)
   have hts := total_snoc ds k hlt
   go_wp2_with fail
   refine (sum (total (ds.take k)) ds[k].1.bal ht hbk _).mono ?_
   rintro e w1 ⟨rfl, hb1⟩
   have hB1 : Below wr.heap.size wr w1 := ba.trans (hb1.mono (by simp))
   obtain ⟨r0', r1', r2', r3', rf', rlt'⟩ := (R4.mk r0 r1 r2 r3 rf rlt).below hB1
   have hBB : Below w.heap.size w w1 := hB.trans (hB1.mono hB.size)
   clear hb1 hB1 r0 r1 r2 r3 rf rlt c0 c1 c2 c3 c4 c5 c6 c7
   by_cases hov : total (ds.take (k + 1)) < M
   ·have hd0 : (total (ds.take k) + ds[k].1.bal) / M = 0 := Nat.div_eq_of_lt (by omega)
    have hm0 : (total (ds.take k) + ds[k].1.bal) % M = total (ds.take (k + 1)) := by rw [hts]; exact Nat.mod_eq_of_lt (by omega)
    rw [hd0, hm0]
    go_wp2
    go_roundw
    case rel =>
     refine ⟨k + 1, by go_num, by omega, hov, ?_, ?_⟩
     ·rw [hts]
      constructor
      iterate 4 simp [go_sem, *]
      ·intro j; simp [go_sem, rf']
      ·simpa using rlt'
     ·exact (((hBB.setCell (p := ⟨w.heap.size, 0, none⟩) (Nat.le_refl _) _).setCell (p := ⟨w.heap.size, 1, none⟩) (Nat.le_refl _) _).setCell (p := ⟨w.heap.size, 2, none⟩) (Nat.le_refl _) _).setCell (p := ⟨w.heap.size, 3, none⟩) (Nat.le_refl _) _
    case measure => simp [Go.RowKit.intOf]; omega
   ·have hd1 : (total (ds.take k) + ds[k].1.bal) / M = 1 := by
     have : M <= total (ds.take k) + ds[k].1.bal := by omega
     rw [Nat.div_eq_iff (by decide)]
     omega
    have hno := total_le ds (k + 1)
    rw [hd1]
    go_wp2
    simp [bodyPost, results, Tryz.results59, go_sem]
    refine ⟨by omega, ?_⟩
    exact (((hBB.setCell (p := ⟨w.heap.size, 0, none⟩) (Nat.le_refl _) _).setCell (p := ⟨w.heap.size, 1, none⟩) (Nat.le_refl _) _).setCell (p := ⟨w.heap.size, 2, none⟩) (Nat.le_refl _) _).setCell (p := ⟨w.heap.size, 3, none⟩) (Nat.le_refl _) _
  ·have hk' : k = ds.length := by omega
   subst hk'
   rw [List.take_length] at ht
   have hd : decide (total ds < M) = true := decide_eq_true ht
   go_wp2
   simp [bodyPost, results, Tryz.results59, go_sem]
   exact ⟨ht, hB⟩
theorem InR.belowR {w w' : World} {a : Option Addr} {ds : List (AccD × SV)} (h : InR w a ds) (hb : Below w.heap.size w w') : InR w' a ds := h.below hb
theorem allowedR (ds : List (AccD × SV)) (a : Option Addr) (cap : Nat) (w : World) (hI : InR w a ds) :
  Calls TryQ.prog 34 #[.slice a ds.length cap] w fun e w' => e = .returned (.bool (decide (Sound (ds.map (·.1))))) /\ Below w.heap.size w w' := by
 have hn := hI.len
 by_cases h64 : ds.length <= 64
 rotate_left
 ·have h64' : ¬ (ds.length : Int) <= 64 := by omega
  have hno : ¬ Sound (ds.map (·.1)) := fun h => h64 (by simpa using h.1)
  go_enter TryQ.func34, Tryz.ntmps34
  go_wp2
  simp [bodyPost, results, Tryz.results34, go_sem]
  exact Below.refl _ _
 have h64' : (ds.length : Int) <= 64 := by omega
 go_enter TryQ.func34, Tryz.ntmps34
 go_wp2
 go_loopw [10] (fun i wr => ∃ k : Nat, i = .int .i64 k /\ k <= ds.length /\ (∀ p ∈ ds.take k, AccOk p.1) /\ Below w.heap.size w wr) (fun i _ => ds.length - (Go.RowKit.intOf i).toNat)
 case atStart =>
  exact ⟨0, rfl, Nat.zero_le _, by simp, Below.refl _ _⟩
 case round =>
  obtain ⟨k, rfl, hk, hok, hB⟩ := hrel
  by_cases hlt : k < ds.length
  ·have hlt' : (k : Int) < (ds.length : Int) := by omega
   have hmem := List.getElem_mem hlt
   obtain ⟨b, o, rfl, hAcc⟩ := hI.acc.resolve_left (fun h => by subst h; simp at hlt)
   have hA' := (hAcc.below hB) k ds[k] (List.getElem?_eq_getElem hlt)
   have c0 := hA' 0 _ rfl
   have c1 := hA' 1 _ rfl
   have c2 := hA' 2 _ rfl
   have c3 := hA' 3 _ rfl
   have c4 := hA' 4 _ rfl
   have c5 := hA' 5 _ rfl
   have c6 := hA' 6 _ rfl
   have c7 := hA' 7 _ rfl
   rw [Nat.add_zero] at c0
   clear hA'
   obtain ⟨hsv, hS⟩ := hI.sl _ hmem
   rw [hsv] at c7
   go_wp2_with fail
   have hal := fun (W : World) (hW : ds[k].1.slots = [] \/ ∃ bs os, ds[k].2.a = some ⟨bs, os, none⟩ /\ SlotsFrom W bs os ds[k].1.slots) => allowedAccR ds[k].1 ds[k].2 W hW (hI.num _ hmem) (fun q hq => (hI.key _ hmem q hq).1)
   unfold accCells at hal
   refine (hal _ (hS.imp id fun ⟨b, o, h1, h2⟩ => ⟨b, o, h1, (h2.below hB).below ba⟩)).mono ?_
   rintro e w1 ⟨rfl, hb1⟩
   have hBB : Below w.heap.size w w1 := hB.trans ((ba.trans (hb1.mono (by simp))).mono hB.size)
   clear hal c0 c1 c2 c3 c4 c5 c6 c7 hb1
   by_cases hacc : AccOk ds[k].1
   ·rw [decide_eq_true hacc]
    go_wp2
    go_roundw
    case rel =>
     refine ⟨k + 1, by go_num, by omega, fun p hp => ?_, hBB⟩
     rw [List.take_add_one, List.getElem?_eq_getElem hlt] at hp
     rcases List.mem_append.1 hp with hp | hp
     ·exact hok p hp
     ·simp at hp; rw [hp]; exact hacc
    case measure => simp [Go.RowKit.intOf]; omega
   ·rw [decide_eq_false hacc]
    have hno : ¬ Sound (ds.map (·.1)) := fun h => hacc (h.2.1 _ (List.mem_map_of_mem hmem))
    go_wp2
    simp [bodyPost, results, Tryz.results34, go_sem, hno]
    exact hBB
  ·have hk' : k = ds.length := by omega
   subst hk'
   rw [List.take_length] at hok
   go_wp2_with fail
   refine (diffIDsR ds a cap _ (hI.belowR hB).acc hn).mono ?_
   rintro e w1 ⟨rfl, hb1⟩
   have hBB : Below w.heap.size w w1 := hB.trans (hb1.mono hB.size)
   have hids : (ds.map (·.1)).map (·.id) = ds.map (·.1.id) := by simp
   have hbal : ((ds.map (·.1)).map (·.bal)).sum = total ds := by simp [total]; rfl
   by_cases hnd : (ds.map (·.1.id)).Nodup
   ·rw [decide_eq_true hnd]
    go_wp2_with fail
    refine (payableR ds a cap _ (hI.belowR hBB).acc hn hI.bal).mono ?_
    rintro e w2 ⟨rfl, hb2⟩
    have hB2 : Below w.heap.size w w2 := hBB.trans (hb2.mono hBB.size)
    have hs : decide (Sound (ds.map (·.1))) = decide (total ds < M) := by
     by_cases ht : total ds < M
     ·have hS : Sound (ds.map (·.1)) := ⟨by simpa using h64, fun d hd => by obtain ⟨p, hp, rfl⟩ := List.mem_map.1 hd; exact hok p hp, by rw [hids]; exact hnd, by rw [hbal]; exact ht⟩
      rw [decide_eq_true ht, decide_eq_true hS]
     ·have hS : ¬ Sound (ds.map (·.1)) := fun h => ht (by rw [<- hbal]; exact h.2.2.2)
      rw [decide_eq_false ht, decide_eq_false hS]
    go_wp2
    have hiff : total ds < M ↔ Sound (ds.map (·.1)) := by
     rw [<- decide_eq_true_iff (p := total ds < M), <- hs, decide_eq_true_iff]
    simp [bodyPost, results, Tryz.results34, go_sem]
    exact ⟨hiff, hB2⟩
   ·have hno : ¬ Sound (ds.map (·.1)) := fun h => hnd (by rw [<- hids]; exact h.2.2.1)
    rw [decide_eq_false hnd]
    go_wp2
    simp [bodyPost, results, Tryz.results34, go_sem, hno]
    exact hBB
end Go.Mark
set_option maxRecDepth 100000
set_option maxHeartbeats 4000000
namespace Go.Mark
open Go.Conc Go.Walk Go.Phase Go.RowKit Go.Conc.Lib Go.ConcR.Gen Go.ConcN.Gen Go.Lift Go.Proofs
open Go.ConcN (WgLive Has RW DWs AtR0 PayAt)
open Go.ConcR (KK WgAt stA smA rd wr mk Payload)
variable [BaseB]
def Res8 (ds : List (AccD × SV)) (v v' : World) (val : Value) : Prop :=
 (Sound (ds.map (·.1)) /\ ∃ pw pl L, val = .tuple #[.pointer (some ⟨pw, 0, none⟩), .nilIface] /\ v'.heap[pw]? = some (.cells #[.pointer (some ⟨pl, 0, none⟩)] 87 (0, 0)) /\ MadeL v' pl ds L /\ v.heap.size <= pl /\ v.heap.size <= pw) \/
 (¬ Sound (ds.map (·.1)) /\ val = .tuple #[.pointer none, .iface 90 (.agg #[.int .i64 1])])
theorem wpOps_rest {P : Program} {ops : Array Oper} {Q : Exit -> Act -> World -> Prop} {a : Act} {w : World} (l : List Oper) (k n : Nat) (hn : l.length = n) (hl : ∀ j, l[j]? = ops[k + j]?) (h : wpList P ops Q l a w) : wpOps P ops Q (List.range' k n) a w := by
 rw [<- hn, wpOps_eq_wpList l k hl]
 exact h
theorem okb8 : okCode Tryz.prog (Tryz.f16.body.getD .skip) = true := by kernel_rfl
section
variable {ds : List (AccD × SV)} {b cap : Nat}
theorem lone8 (u : World) (hI : InR u (some ⟨b, 0, none⟩) ds) (hso : Sound (ds.map (·.1))) (Φ : Act -> World -> Prop) (hΦ : ∀ v', Below u.heap.size u v' -> Φ ⟨#[.slice (some ⟨b, 0, none⟩) ds.length cap, undef, .pointer none, .nilIface, .slice (some ⟨b, 0, none⟩) ds.length cap, .bool true, .bool false, undef, undef, undef, undef, undef, undef], []⟩ v') :
  c8.wp TryQ.prog (fun e a' v' => e = .normal /\ a'.defers = [] /\ Φ a' v') ⟨#[.slice (some ⟨b, 0, none⟩) ds.length cap, undef, .pointer none, .nilIface, undef, undef, undef, undef, undef, undef, undef, undef, undef], []⟩ u := by
 have hal := allowedR ds (some ⟨b, 0, none⟩) cap u hI
 rw [decide_eq_true hso] at hal
 dsimp only [c8, Tryz.f16]
 go_wp2_with fail
 refine hal.mono ?_
 rintro e w1 ⟨rfl, hb⟩
 have := hΦ _ hb
 clear hΦ
 go_wp2_with fail
 exact this
theorem no8 (u : World) (hI : InR u (some ⟨b, 0, none⟩) ds) (hso : ¬ Sound (ds.map (·.1))) (Ψ : Value -> World -> Prop) (hΨ : ∀ v', Below u.heap.size u v' -> Ψ (.tuple #[.pointer none, .iface 90 (.agg #[.int .i64 1])]) v') :
  (Tryz.f16.body.getD .skip).wp TryQ.prog (bodyPost TryQ.prog Tryz.f16 fun e v' => ∃ val, e = .returned val /\ Ψ val v') ⟨#[.slice (some ⟨b, 0, none⟩) ds.length cap] ++ Array.replicate 12 undef, []⟩ u := by
 have hal := allowedR ds (some ⟨b, 0, none⟩) cap u hI
 rw [decide_eq_false hso] at hal
 dsimp only [Tryz.f16, Option.getD_some]
 go_wp2_with fail
 refine hal.mono ?_
 rintro e w1 ⟨rfl, hb⟩
 go_wp2
 simp [bodyPost, results, go_sem]
 exact hΨ _ hb
theorem rest8 (u : World) (pl : Nat) (Ψ : Value -> World -> Prop) (hΨ : ∀ v', v'.heap[u.heap.size]? = some (.cells #[.pointer (some ⟨pl, 0, none⟩)] 87 (0, 0)) -> Below u.heap.size u v' -> Ψ (.tuple #[.pointer (some ⟨u.heap.size, 0, none⟩), .nilIface]) v') :
  wpOps TryQ.prog ops8 (fun e a' v' => e = .normal /\ e8.wp TryQ.prog (bodyPost TryQ.prog Tryz.f16 fun e v' => ∃ val, e = .returned val /\ Ψ val v') a' v') [2, 3, 4, 5] ⟨#[.slice (some ⟨b, 0, none⟩) ds.length cap, undef, .pointer none, .nilIface, .slice (some ⟨b, 0, none⟩) ds.length cap, .bool true, .bool false, undef, undef, .slice (some ⟨b, 0, none⟩) ds.length cap, .pointer (some ⟨pl, 0, none⟩), undef, undef], []⟩ u := by
 obtain ⟨fn, hfn⟩ : ∃ fn, fn = Tryz.f16 := ⟨_, rfl⟩
 have hres : fn.results = #[ResultVar.tmp 2, ResultVar.tmp 3] := by rw [hfn]; exact Tryz.results16
 rw [<- hfn]
 clear hfn
 obtain ⟨l, hl⟩ : ∃ l, l = ops8.toList.drop 2 := ⟨_, rfl⟩
 have hl' := hl
 simp only [ops8, d8, Tryz.f16, List.drop_succ_cons, List.drop_zero] at hl'
 refine wpOps_rest l 2 4 (by rw [hl']; rfl) (fun j => by rw [hl]; simp) ?_
 rw [hl']
 dsimp only [e8, ops8, d8, Tryz.f16]
 clear hl' hl l
 go_wp2
 simp [bodyPost, results, hres, go_sem]
 exact hΨ _ (blk_new u _) ba
end
theorem new8_runs {B : Nat} {Shun : Loc -> Prop} {D : Nat -> Prop} {ds : List (AccD × SV)} {b cap o : Nat} {X : Array Value} {b₀ : Frame} {a₀ : Act} {ops₀ : Array Oper} {i₀ : Nat} {rest₀ : List Nat} {k₀ : List Item} {cs : List Frame} {w v : World} {m : Machine} {t : Trace}
  (hB : B <= w.heap.size) (hb0 : BaseB.b0 <= v.heap.size) (hrel : Rel (veil D) w v) (hdk : Dk B D w) (hhid : Hides (veil D) Shun) (hrow : v.heap[b]? = some (.cells X 52)) (hX0 : 0 < X.size) (hX : ds.length * 8 <= X.size) (h1 : X.all (·.oneCell') = true) (hI : InR v (some ⟨b, 0, none⟩) ds) (ho : o + 64 < 2147483647)
  (hb₀ : b₀.kind = .normal) (ha₀ : a₀.defers = []) (ho₀ : okOps Tryz.prog ops₀ = true) (hk₀ : ∀ x ∈ k₀, okItem Tryz.prog x = true)
  (hst : Stand Tryz.prog Shun w.heap.size (o + 1) (G ((base 16).at ⟨#[.slice (some ⟨b, 0, none⟩) ds.length cap] ++ Array.replicate 12 undef, []⟩ [.code (Tryz.f16.body.getD .skip)]) (b₀.at a₀ (.inRegion ops₀ (i₀ :: rest₀) :: k₀) :: cs)) w m t) :
  Runs Tryz.prog m t fun m' t' => ∃ w' v' Shun' D' o' val, OnTo B Shun' D' w w' v v' /\ Res8 ds v v' val /\ o' <= o + 64 /\
   Stand Tryz.prog Shun' w'.heap.size (o' + 1) (G (after b₀ a₀ ops₀ i₀ rest₀ k₀ val) cs) w' m' t' := by
 by_cases hso : Sound (ds.map (·.1))
 rotate_left
 ·have hwill := lift_rest (D := D) (f := 16) (fn := Tryz.f16) (c := Tryz.f16.body.getD .skip) (b := base 16) (b₀ := b₀) (a₀ := a₀) (ops₀ := ops₀) (i₀ := i₀) (rest₀ := rest₀) (k₀ := k₀) (cw := cs) (w := w)
   (Ψ := fun val v' => ∃ u, Rel (veil D) w u /\ val = .tuple #[.pointer none, .iface 90 (.agg #[.int .i64 1])] /\ Below u.heap.size u v')
   rfl TryQ.func16 rfl rfl okb8 hb₀ ha₀ ho₀ hk₀ ⟨v, hrel⟩ (a := ⟨#[.slice (some ⟨b, 0, none⟩) ds.length cap] ++ Array.replicate 12 undef, []⟩) (fun u hu => no8 u (hI.tw (tw_rel hdk hrel hu)) hso _ (fun v' hb => ⟨u, hu, rfl, hb⟩))
  refine (runs_will hhid hwill hst).mono fun m5 t5 h5 => ?_
  obtain ⟨g5, w5, ⟨val, v5, rfl, hr5, hs5, u, hu, hval, hb⟩, hst5⟩ := h5
  exact ⟨w5, v5, Shun, D, o, val, onto_lone hdk hrel hhid hB hu hr5 hs5 hb, .inr ⟨hso, hval⟩, by omega, hst5⟩
 have hnum : ds.length <= 64 := by simpa using hso.1
 refine (runs_sil (enter8 (h0 := w.heap)) rfl hst).then fun m1 t1 h2 => ?_
 obtain ⟨a1, w1, ⟨rfl, hh1⟩, ho1, hst1⟩ := h2
 have hon1 := onto_sil (w' := w1) hdk hrel hhid hh1 ho1
 have hwill := lift_code (D := D) (c := c8) (b := base 16) (k := [.code d8]) (cw := b₀.at a₀ (.inRegion ops₀ (i₀ :: rest₀) :: k₀) :: cs) (w := w1) (a := ⟨#[.slice (some ⟨b, 0, none⟩) ds.length cap, undef, .pointer none, .nilIface, undef, undef, undef, undef, undef, undef, undef, undef, undef], []⟩)
  (Φ := fun a' v' => a' = ⟨#[.slice (some ⟨b, 0, none⟩) ds.length cap, undef, .pointer none, .nilIface, .slice (some ⟨b, 0, none⟩) ds.length cap, .bool true, .bool false, undef, undef, undef, undef, undef, undef], []⟩ /\ ∃ u, Rel (veil D) w1 u /\ Below u.heap.size u v') rfl rfl okc8 (fun x hx => by rw [List.mem_singleton.1 hx]; exact okd8) ⟨_, hon1.rel⟩
  (fun u hu => lone8 u (hI.tw (tw_rel hon1.dk hon1.rel hu)) hso _ (fun v' hb => ⟨rfl, u, hu, hb⟩))
 have hsz1 : w1.heap.size = w.heap.size := by rw [hh1]
 rw [<- hsz1] at hst1
 refine (runs_will hhid hwill hst1).then fun m2 t2 h3 => ?_
 obtain ⟨g2, w2, ⟨a2, v2, rfl, hr2, hs2, _, rfl, u2, hu2, hb2⟩, hst2⟩ := h3
 have hon2 := hon1.trans (onto_lone hon1.dk hon1.rel hhid (Nat.le_trans hB hon1.up) hu2 hr2 hs2 hb2)
 refine (runs_sil (mid8 (h0 := w2.heap)) rfl hst2).then fun m3 t3 h4 => ?_
 obtain ⟨g3, w3, ⟨rfl, hh3⟩, ho3, hst3⟩ := h4
 have hon3 := hon2.trans (onto_sil (w' := w3) hon2.dk hon2.rel hhid hh3 ho3)
 have hsz3 : w3.heap.size = w2.heap.size := by rw [hh3]
 rw [<- hsz3] at hst3
 have hI3 : InR v2 (some ⟨b, 0, none⟩) ds := hI.tw hon3.tw
 refine (new17_runs (o := o) (b₀ := base 16) (a₀ := ⟨#[.slice (some ⟨b, 0, none⟩) ds.length cap, undef, .pointer none, .nilIface, .slice (some ⟨b, 0, none⟩) ds.length cap, .bool true, .bool false, undef, undef, .slice (some ⟨b, 0, none⟩) ds.length cap, undef, undef, undef], []⟩) (ops₀ := ops8) (i₀ := 1) (rest₀ := [2, 3, 4, 5]) (k₀ := [.code e8]) (Nat.le_trans hB hon3.up) (Nat.le_trans hb0 hon3.tw.size) hon3.rel hon3.dk hhid (hon3.tw.obj b _ hrow (.inl trivial)) hX0 hX h1 hI3 hso ho rfl rfl oko8 (fun x hx => by rw [List.mem_singleton.1 hx]; exact oke8) hst3).then fun m4 t4 h5 => ?_
 obtain ⟨w4, v4, pl, L, hon, hled, hpl, hst4⟩ := h5
 have hact : after (base 16) ⟨#[.slice (some ⟨b, 0, none⟩) ds.length cap, undef, .pointer none, .nilIface, .slice (some ⟨b, 0, none⟩) ds.length cap, .bool true, .bool false, undef, undef, .slice (some ⟨b, 0, none⟩) ds.length cap, undef, undef, undef], []⟩ ops8 1 [2, 3, 4, 5] [.code e8] (.pointer (some ⟨pl, 0, none⟩)) = (base 16).at ⟨#[.slice (some ⟨b, 0, none⟩) ds.length cap, undef, .pointer none, .nilIface, .slice (some ⟨b, 0, none⟩) ds.length cap, .bool true, .bool false, undef, undef, .slice (some ⟨b, 0, none⟩) ds.length cap, .pointer (some ⟨pl, 0, none⟩), undef, undef], []⟩ (.inRegion ops8 [2, 3, 4, 5] :: [.code e8]) := rfl
 rw [hact] at hst4
 have hwill2 := lift_rest_ops (D := D1 D (w3.heap.size + 2)) (f := 16) (fn := Tryz.f16) (c := e8) (ops := ops8) (l := [2, 3, 4, 5]) (b := base 16) (b₀ := b₀) (a₀ := a₀) (ops₀ := ops₀) (i₀ := i₀) (rest₀ := rest₀) (k₀ := k₀) (cw := cs) (w := w4) (a := ⟨#[.slice (some ⟨b, 0, none⟩) ds.length cap, undef, .pointer none, .nilIface, .slice (some ⟨b, 0, none⟩) ds.length cap, .bool true, .bool false, undef, undef, .slice (some ⟨b, 0, none⟩) ds.length cap, .pointer (some ⟨pl, 0, none⟩), undef, undef], []⟩)
  (Ψ := fun val v' => ∃ u, Rel (veil (D1 D (w3.heap.size + 2))) w4 u /\ val = .tuple #[.pointer (some ⟨u.heap.size, 0, none⟩), .nilIface] /\ v'.heap[u.heap.size]? = some (.cells #[.pointer (some ⟨pl, 0, none⟩)] 87 (0, 0)) /\ Below u.heap.size u v')
  rfl TryQ.func16 rfl rfl oko8 oke8 hb₀ ha₀ ho₀ hk₀ ⟨_, hon.rel⟩ (fun u hu => rest8 u pl _ (fun v' hc hb => ⟨u, hu, rfl, hc, hb⟩))
 refine (runs_will hon.hid hwill2 hst4).mono fun m5 t5 h6 => ?_
 obtain ⟨g5, w5, ⟨val, v5, rfl, hr5, hs5, u, hu, hval, hcell, hb⟩, hst5⟩ := h6
 have hon4 := hon3.trans hon
 have hon5 := onto_lone hon.dk hon.rel hon.hid (Nat.le_trans hB hon4.up) hu hr5 hs5 hb
 have hus : v4.heap.size = u.heap.size := by rw [hon.rel.size, hu.size]
 exact ⟨w5, v5, _, _, o + ds.length, val, hon4.trans hon5, .inl ⟨hso, _, pl, L, hval, hcell, hled.tw hon5.tw, Nat.le_trans hon3.tw.size hpl, by rw [<- hus]; exact hon4.tw.size⟩, by omega, hst5⟩
end Go.Mark
