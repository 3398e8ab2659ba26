import Derived.Test.YtbephahokhnccaaGreatXF10toF3
import Derived.Test.YtbephahokhnccaaGreatXF5toF8
import Derived.OrdersHeld
import Derived.Deep.RegionHeld
/-! The document's own answer: may a world be made of these? (purserref.sound) -/
namespace Go.Mark
open Go.RowKit Go.Proofs
theorem take_d {P : Program} {ops : Array Oper} {Q : Exit → Act → World → Prop} {md : Region.Mode} {S : World → Prop} {i : Nat} {oi : Oper} {d : Option Tmp} {v : Value} {fuel : Nat} {listed : Array Bool} {a : Act} {w : World} (hi : ops[i]? = some oi) (hd : oi.dst = d)
    (hs : Region.noSelect ops = true) (hf : Region.free md ops listed i = true) (hr : (Region.ready md ops listed).contains i = true)
    (hQ : ∀ c a w, Q (.panic c) (a.put oi.dst v) w → Q (.panic c) a w) (hy : YieldsIf P ops S oi v a) (hS : S w)
    (h : wpAnyH P md ops Q S fuel (listed.setIfInBounds i true) (a.put d v) w) : wpAnyH P md ops Q S (fuel + 1) listed a w := by
  subst hd
  exact wpAnyH_take hi hs hf hr hQ hy hS h
/-- all ways through a piece meet in one state -/
theorem wp_meet {P : Program} {c : Code} {a : Act} {w : World} {Q : Exit → Act → World → Prop} (R : World → Prop) (h : ∃ A, c.wp P (fun e a' W => e = .normal ∧ a' = A ∧ R W) a w ∧ ∀ W, R W → Q .normal A W) : c.wp P Q a w :=
  let ⟨_, h1, h2⟩ := h
  Code.wp_mono (fun _ _ _ ⟨e1, e2, hR⟩ => by subst e1 e2; exact h2 _ hR) h1
/-- slots that lie from place o of block b on -/
def SlotsFrom (w : World) (b o : Nat) (ss : List (Nat × Nat)) : Prop := ∀ (i : Nat) (p : Nat × Nat), ss[i]? = some p → CellsAt w b (o + i * 8) (slotCells p)
theorem SlotsFrom.below {w w' : World} {b o : Nat} {ss : List (Nat × Nat)} (h : SlotsFrom w b o ss) (hb : Below w.heap.size w w') : SlotsFrom w' b o ss := fun i p hp => (h i p hp).below hb
/-- a list of accounts as a caller may hand it in: slices of whatever place, nil where empty -/
structure InR (w : World) (a : Option Addr) (ds : List (AccD × SV)) : Prop where
  acc : ds = [] ∨ ∃ b o, a = some ⟨b, o, none⟩ ∧ AccsAt w b o ds
  sl : ∀ p ∈ ds, p.2.n = p.1.slots.length ∧ (p.1.slots = [] ∨ ∃ bs os, p.2.a = some ⟨bs, os, none⟩ ∧ SlotsFrom w bs os p.1.slots)
  bal : ∀ p ∈ ds, p.1.bal < M
  num : ∀ p ∈ ds, p.1.slots.length < 2199023255552
  key : ∀ p ∈ ds, ∀ q ∈ p.1.slots, q.1 < M ∧ q.2 < M
  len : ds.length < 2199023255552
theorem InR.below {w w' : World} {a : Option Addr} {ds : List (AccD × SV)} (h : InR w a ds) (hb : Below w.heap.size w w') : InR w' a ds :=
  ⟨h.acc.imp id fun ⟨b, o, h1, h2⟩ => ⟨b, o, h1, h2.below hb⟩, fun p hp => ⟨(h.sl p hp).1, (h.sl p hp).2.imp id fun ⟨b, o, h1, h2⟩ => ⟨b, o, h1, h2.below hb⟩⟩, h.bal, h.num, h.key, h.len⟩
/-- the walk's own two blocks: the total, the account at hand -/
structure SW (w W : World) (t b5 : Nat) (l : List Value) : Prop where
  below : Below w.heap.size w W
  tot : LH W w.heap.size (dl t)
  x : CellsAt W b5 0 l
  lt : w.heap.size < b5
theorem SW.keep {w W W' : World} {t b5 : Nat} {l : List Value} (h : SW w W t b5 l) (hb : Below W.heap.size W W') : SW w W' t b5 l :=
  ⟨h.below.trans (hb.mono h.below.size), h.tot.below hb, h.x.below hb, h.lt⟩
theorem cells_set {W : World} {b c : Nat} {l m : List Value} (h : CellsAt W b 0 l) (hne : b ≠ c) : CellsAt (W.setCells c 0 m) b 0 l := World.rangeAt_setCells_apart h _ _ _ (.inl hne)
theorem cells_new (W : World) (l : List Value) (ty : TypeId) : CellsAt (W.alloc (.cells l.toArray ty)) W.heap.size 0 l := fun j v hj => by
  rw [Nat.zero_add]
  rw [World.cell?_alloc_new]; simpa using hj
theorem total_lt (ds : List (AccD × SV)) (h : ∀ p ∈ ds, p.1.bal < M) (k : Nat) : total (ds.take k) ≤ k * M := by
  induction k with
  | zero => simp [total]
  | succ k ih =>
    by_cases hk : k < ds.length
    · rw [total_snoc ds k hk]
      have := h _ (List.getElem_mem hk)
      rw [Nat.succ_mul]
      omega
    · rw [List.take_of_length_le (by omega)]
      rw [List.take_of_length_le (by omega)] at ih
      rw [Nat.succ_mul]
      omega
theorem ids_ne (ds : List (AccD × SV)) (j k : Nat) (hj : j < k) (hk : k < ds.length) (h : Sound (ds.map (·.1))) : ds[j].1.id ≠ ds[k].1.id := by
  have h1 := List.pairwise_iff_getElem.1 h.2.2.1 j k (by simp; omega) (by simpa using hk) hj
  simpa using h1
theorem nodup_snoc {α β : Type} (f : α → β) (l : List α) (k : Nat) (hk : k < l.length) (h : ((l.take k).map f).Nodup) (hne : ∀ p ∈ l.take k, f p ≠ f l[k]) : ((l.take (k + 1)).map f).Nodup := by
  rw [← take_map f l k hk]
  refine List.nodup_append.2 ⟨h, by simp, ?_⟩
  intro a ha b hb
  obtain ⟨p, hp, rfl⟩ := List.mem_map.1 ha
  rw [List.mem_singleton.1 hb]
  exact hne p hp
theorem small_of_dig (n : Nat) (h : n < MM) (hz : ∀ j, 8 ≤ j → j < 16 → dig n j = 0) : n < M := by
  have e : M = 4294967296 ^ 8 := by decide
  have e2 : MM = 4294967296 ^ 16 := by decide
  have h0 : n / M < 4294967296 ^ 8 := by rw [Nat.div_lt_iff_lt_mul (by decide)]; have : (4294967296 : Nat) ^ 8 * M = MM := by decide
                                         omega
  have key : ∀ i, i ≤ 8 → n / M % 4294967296 ^ i = 0 := by
    intro i
    induction i with
    | zero => intro _; simp [Nat.mod_one]
    | succ i ih =>
      intro hi
      rw [mod_next, ih (by omega)]
      have := hz (8 + i) (by omega) (by omega)
      rw [digN] at this
      have h2 : n / 4294967296 ^ (8 + i) % 4294967296 = 0 := by exact_mod_cast this
      rw [Nat.pow_add, ← Nat.div_div_eq_div_mul, ← e] at h2
      rw [h2]
      simp
  have := key 8 (Nat.le_refl _)
  rw [Nat.mod_eq_of_lt h0] at this
  rcases Nat.lt_or_ge n M with h1 | h1
  · exact h1
  · have h3 := Nat.div_le_div_right (c := M) h1
    rw [Nat.div_self (by decide), this] at h3
    omega
theorem keys_ne (d : AccD) (j k : Nat) (hj : j < k) (hk : k < d.slots.length) (h : AccOk d) : d.slots[j].1 ≠ d.slots[k].1 := by
  have h1 := List.pairwise_iff_getElem.1 h.2.2.2.2.2.2 j k (by simp; omega) (by simpa using hk) hj
  simpa using h1
set_option maxRecDepth 100000 in
set_option maxHeartbeats 4000000 in
theorem sound (ds : List (AccD × SV)) (a : Option Addr) (cap : Nat) (w : World) (hI : InR w a ds) :
    Calls TryQ.prog 18 #[.slice a ds.length cap] w fun e w' => e = .returned (.bool (decide (Sound (ds.map (·.1))))) ∧ Below w.heap.size w w' := by
  have hn := hI.len
  by_cases h64 : ds.length ≤ 64
  rotate_left
  · have h64' : ¬ (ds.length : Int) ≤ 64 := by omega
    have hno : ¬ Sound (ds.map (·.1)) := fun h => h64 (by simpa using h.1)
    go_enter TryQ.func18, Tryz.ntmps18
    go_wp2
    simp [bodyPost, results, Tryz.results18, go_sem]
    exact Below.refl _ _
  have h64' : (ds.length : Int) ≤ 64 := by omega
  go_enter TryQ.func18, Tryz.ntmps18
  go_wp2
  go_loopw [4] (fun i wr => ∃ k : Nat, i = .int .i64 k ∧ k ≤ ds.length ∧ (∀ p ∈ ds.take k, AccOk p.1) ∧ ((ds.take k).map (·.1.id)).Nodup ∧ LH wr w.heap.size (dl (total (ds.take k))) ∧ Below w.heap.size w wr) (fun i _ => ds.length - (Go.RowKit.intOf i).toNat)
  case atStart =>
    exact ⟨0, rfl, Nat.zero_le _, by simp, by simp, lh_new0 w, (Below.refl _ _).alloc (Nat.le_refl _) _⟩
  case round =>
    obtain ⟨k, rfl, hk, hok, hnd, hT, hB⟩ := hrel
    by_cases hlt : k < ds.length
    · have hlt' : (k : Int) < (ds.length : Int) := by omega
      have hmem := List.getElem_mem hlt
      obtain ⟨b, o, rfl, hA⟩ := hI.acc.resolve_left (by intro e; rw [e] at hlt; simp at hlt)
      have hA' := (hA.below hB) k ds[k] (List.getElem?_eq_getElem hlt)
      have hgetk := List.getElem?_eq_getElem hlt
      obtain ⟨hsn, hsl⟩ := hI.sl _ hmem
      have hbal := hI.bal _ hmem
      have hnum := hI.num _ hmem
      have hkey := hI.key _ hmem
      have hsum := total_snoc ds k hlt
      generalize ds[k] = p at *
      obtain ⟨d, sv⟩ := p
      obtain ⟨sa, sn, sc⟩ := sv
      have c0 := hA' 0 _ rfl
      have c1 := hA' 1 _ rfl
      have c2 := hA' 2 _ rfl
      have c3 := hA' 3 _ rfl
      have c4 := hA' 4 _ rfl
      have c5 := hA' 5 _ rfl
      have c6 := hA' 6 _ rfl
      have c7 := hA' 7 _ rfl
      rw [Nat.add_zero] at c0
      clear hA'
      simp only at hsn hsl hbal hnum hkey hsum c0 c1 c2 c3 c4 c5 c6 c7
      subst hsn
      have hMM : total (ds.take k) + d.bal < MM := by
        have h1 := total_lt ds hI.bal k
        have h2 : k * M ≤ 64 * M := Nat.mul_le_mul_right _ (by omega)
        have h3 : 65 * M < MM := by decide
        omega
      have hS0 : SW w (wr.alloc (.cells (accCells d ⟨sa, d.slots.length, sc⟩).toArray 31)) (total (ds.take k)) wr.heap.size (accCells d ⟨sa, d.slots.length, sc⟩) :=
        ⟨hB.alloc hB.size _, hT.alloc _, cells_new wr _ 31, hT.z⟩
      unfold accCells at hS0
      go_wp2_with fail
      generalize wr.alloc _ = W0 at hS0 ⊢
      generalize wr.heap.size = z5 at hS0 ⊢
      generalize total (ds.take k) = t at *
      refine wp_meet (fun W => SW w W (t + d.bal) z5 (accCells d ⟨sa, d.slots.length, sc⟩)) ?_
      apply Exists.intro
      apply And.intro
      · skip
        have hLt := ll_dl t
        have hLs := ll_dl (t + d.bal)
        have hpl := plus t d.bal
        rw [Nat.mod_eq_of_lt hMM] at hpl
        have hsp := spread d.bal hbal
        rw [← lv_lg, lv_dl] at hsp
        have hlb := ll_dl d.bal
        refine wp_region_held_drew (S := fun W => ∃ t', SW w W t' z5 (accCells d ⟨sa, d.slots.length, sc⟩)) (by kernel_rfl) ⟨t, SW.keep hS0 (Below.refl _ _).drew⟩ (fun _ => ?_)
        replace hS0 := SW.keep hS0 (Below.refl _ _).drew
        generalize W0.drew = W1 at hS0 ⊢
        have hH : ∃ t', SW w W1 t' z5 (accCells d ⟨sa, d.slots.length, sc⟩) := ⟨t, hS0⟩
        refine take_d (i := 1) (d := some 24) (v := .pointer (some ⟨z5, 1, none⟩)) rfl rfl (by kernel_rfl) (by kernel_rfl) (by kernel_rfl) (fun _ _ _ h => by cases h.1) (Or.inl ⟨by rfl, fun W hW => ?_⟩) hH ?_
        · clear hW hH
          go_simp
        simp only [Act.put, List.setIfInBounds_toArray, List.set_cons_zero, List.set_cons_succ]
        refine take_d (i := 2) (d := some 25) (v := wd d.bal) rfl rfl (by kernel_rfl) (by kernel_rfl) (by kernel_rfl) (fun _ _ _ h => by cases h.1) (Or.inl ⟨by rfl, fun W hW => ?_⟩) hH ?_
        · obtain ⟨t', hW⟩ := hW
          have k1 := hW.x 1 _ rfl
          have k2 := hW.x 2 _ rfl
          have k3 := hW.x 3 _ rfl
          have k4 := hW.x 4 _ rfl
          simp only [Nat.zero_add] at k1 k2 k3 k4
          clear hW hH
          unfold wd
          go_simp
        simp only [Act.put, List.setIfInBounds_toArray, List.set_cons_zero, List.set_cons_succ]
        clear hH
        refine wpAnyH_ready (rs := [0, 3]) (by kernel_rfl) (by simp) ?_
        refine AllReadyH.cons rfl (fun K hK => ?_) (AllReadyH.cons rfl (fun K hK => ?_) AllReadyH.nil)
        · skip
          rw [if_pos (by rfl)]
          refine wp_load_mid 96 _ rfl w.heap.size 0 rfl (dl t) _ hS0.tot.r ((q_underlying 96).trans Tryz.underlying96) rfl (by rw [hLt.len]; exact i34) ?_
          simp only [Act.put, List.setIfInBounds_toArray]
          refine hK.out _ _ ⟨_, hS0⟩ (fun _ => ?_)
          clear hK K
          refine wpAnyH_ready (rs := [3]) (by kernel_rfl) (by simp) ?_
          refine AllReadyH.cons rfl (fun K hK => ?_) AllReadyH.nil
          go_simp
          refine (hsp _).mono ?_
          rintro e wA ⟨rfl, hbn⟩
          go_wp2_with fail
          replace hS0 := hS0.keep hbn
          refine hK.out _ _ ⟨_, hS0⟩ (fun _ => ?_)
          clear hbn hK K
          refine wpAnyH_ready (rs := [4]) (by kernel_rfl) (by simp) ?_
          refine AllReadyH.cons rfl (fun K hK => ?_) AllReadyH.nil
          go_simp
          refine (hpl _).mono ?_
          rintro e wB ⟨rfl, hbn⟩
          go_wp2_with fail
          replace hS0 := hS0.keep hbn
          refine hK.out _ _ ⟨_, hS0⟩ (fun _ => ?_)
          clear hbn hK K
          refine wpAnyH_ready (rs := [5]) (by kernel_rfl) (by simp) ?_
          refine AllReadyH.cons rfl (fun K hK => ?_) AllReadyH.nil
          rw [if_pos (by rfl)]
          refine wp_store_mid 96 _ _ rfl w.heap.size 0 (dl (t + d.bal)).toArray rfl rfl (by simpa [hLs.len] using hS0.tot.t) (by simpa [hLs.len] using i34) hLs.one ?_
          replace hS0 : SW w (wB.setCells w.heap.size 0 (dl (t + d.bal)).toArray.toList) (t + d.bal) z5 (accCells d ⟨sa, d.slots.length, sc⟩) :=
            ⟨below_setCells _ _ _ _ _ _ hS0.below (Nat.le_refl _), hS0.tot.set hLs, cells_set hS0.x (by have := hS0.lt; omega), hS0.lt⟩
          refine hK.out _ _ ⟨_, hS0⟩ (fun _ => ?_)
          clear hK K
          refine wpAnyH_done (by kernel_rfl) ?_ _
          exact ⟨rfl, rfl, hS0⟩
        · skip
          go_simp
          refine (hsp _).mono ?_
          rintro e wA ⟨rfl, hbn⟩
          go_wp2_with fail
          replace hS0 := hS0.keep hbn
          refine hK.out _ _ ⟨_, hS0⟩ (fun _ => ?_)
          clear hbn hK K
          refine wpAnyH_ready (rs := [0]) (by kernel_rfl) (by simp) ?_
          refine AllReadyH.cons rfl (fun K hK => ?_) AllReadyH.nil
          rw [if_pos (by rfl)]
          refine wp_load_mid 96 _ rfl w.heap.size 0 rfl (dl t) _ hS0.tot.r ((q_underlying 96).trans Tryz.underlying96) rfl (by rw [hLt.len]; exact i34) ?_
          simp only [Act.put, List.setIfInBounds_toArray]
          refine hK.out _ _ ⟨_, hS0⟩ (fun _ => ?_)
          clear hK K
          refine wpAnyH_ready (rs := [4]) (by kernel_rfl) (by simp) ?_
          refine AllReadyH.cons rfl (fun K hK => ?_) AllReadyH.nil
          go_simp
          refine (hpl _).mono ?_
          rintro e wB ⟨rfl, hbn⟩
          go_wp2_with fail
          replace hS0 := hS0.keep hbn
          refine hK.out _ _ ⟨_, hS0⟩ (fun _ => ?_)
          clear hbn hK K
          refine wpAnyH_ready (rs := [5]) (by kernel_rfl) (by simp) ?_
          refine AllReadyH.cons rfl (fun K hK => ?_) AllReadyH.nil
          rw [if_pos (by rfl)]
          refine wp_store_mid 96 _ _ rfl w.heap.size 0 (dl (t + d.bal)).toArray rfl rfl (by simpa [hLs.len] using hS0.tot.t) (by simpa [hLs.len] using i34) hLs.one ?_
          replace hS0 : SW w (wB.setCells w.heap.size 0 (dl (t + d.bal)).toArray.toList) (t + d.bal) z5 (accCells d ⟨sa, d.slots.length, sc⟩) :=
            ⟨below_setCells _ _ _ _ _ _ hS0.below (Nat.le_refl _), hS0.tot.set hLs, cells_set hS0.x (by have := hS0.lt; omega), hS0.lt⟩
          refine hK.out _ _ ⟨_, hS0⟩ (fun _ => ?_)
          clear hK K
          refine wpAnyH_done (by kernel_rfl) ?_ _
          exact ⟨rfl, rfl, hS0⟩
      · intro W hS
        clear hS0
        have hdm : d ∈ ds.map (·.1) := List.mem_map_of_mem (f := (·.1)) hmem
        have x0 := hS.x 0 _ rfl
        have x5 := hS.x 5 _ rfl
        have x6 := hS.x 6 _ rfl
        have x7 := hS.x 7 _ rfl
        simp only [Nat.zero_add] at x0 x5 x6 x7
        by_cases h1 : 1 ≤ d.id
        rotate_left
        · have hno : ¬ Sound (ds.map (·.1)) := fun h => h1 ((h.2.1 d hdm).1)
          go_wp2
          simp [bodyPost, results, Tryz.results18, go_sem]
          exact hS.below
        by_cases h2 : d.id ≤ 999999
        rotate_left
        · have hno : ¬ Sound (ds.map (·.1)) := fun h => h2 ((h.2.1 d hdm).2.1)
          go_wp2
          simp [bodyPost, results, Tryz.results18, go_sem]
          exact hS.below
        by_cases h3 : 0 ≤ d.nonce
        rotate_left
        · have hno : ¬ Sound (ds.map (·.1)) := fun h => h3 ((h.2.1 d hdm).2.2.1)
          go_wp2
          simp [bodyPost, results, Tryz.results18, go_sem]
          exact hS.below
        by_cases h4 : d.nonce ≤ 4611686018427387904
        rotate_left
        · have hno : ¬ Sound (ds.map (·.1)) := fun h => h4 ((h.2.1 d hdm).2.2.2.1)
          go_wp2
          simp [bodyPost, results, Tryz.results18, go_sem]
          exact hS.below
        by_cases h5 : (d.code.size : Int) ≤ 2000
        rotate_left
        · have hno : ¬ Sound (ds.map (·.1)) := fun h => h5 ((h.2.1 d hdm).2.2.2.2.1)
          go_wp2
          simp [bodyPost, results, Tryz.results18, go_sem]
          exact hS.below
        by_cases h6 : (d.slots.length : Int) ≤ 64
        rotate_left
        · have hno : ¬ Sound (ds.map (·.1)) := fun h => h6 ((h.2.1 d hdm).2.2.2.2.2.1)
          go_wp2
          simp [bodyPost, results, Tryz.results18, go_sem]
          exact hS.below
        go_wp2_with fail
        clear x0 x5 x6 x7
        go_loopw [6] (fun i W => ∃ j : Nat, i = .int .i64 j ∧ j ≤ k ∧ (∀ p ∈ ds.take j, p.1.id ≠ d.id) ∧ SW w W (t + d.bal) z5 (accCells d ⟨sa, d.slots.length, sc⟩)) (fun i _ => k - (Go.RowKit.intOf i).toNat)
        case atStart =>
          exact ⟨0, rfl, Nat.zero_le _, by simp, hS⟩
        case round =>
          obtain ⟨j, rfl, hj, hne, hS⟩ := hrel
          by_cases hjk : j < k
          · have hjk' : (j : Int) < (k : Int) := by omega
            have hjl : j < ds.length := by omega
            have hjl' : (j : Int) < (ds.length : Int) := by omega
            have y0 := (hA.below hS.below) j ds[j] (List.getElem?_eq_getElem hjl) 0 _ rfl
            rw [Nat.add_zero] at y0
            have x0 := hS.x 0 _ rfl
            simp only [Nat.zero_add] at x0
            go_wp2_with fail
            go_region_held (fun W' => W'.cell? ⟨b, o + j * 8, none⟩ = some (.int .i64 ds[j].1.id) ∧ W'.cell? ⟨z5, 0, none⟩ = some (.int .i64 d.id)) (go_keep) (fail)
            have hS1 := hS.keep (Below.refl _ _).drew
            by_cases heq : ds[j].1.id = d.id
            · have hno : ¬ Sound (ds.map (·.1)) := fun h => ids_ne ds j k hjk hlt h (by rw [Option.some.inj ((List.getElem?_eq_getElem hlt).symm.trans hgetk), heq])
              go_wp2
              simp [bodyPost, results, Tryz.results18, go_sem, hno]
              exact hS1.below
            · go_wp2_with fail
              go_roundw
              case rel =>
                refine ⟨j + 1, rfl, by omega, ?_, hS1⟩
                intro p hp
                rw [← List.take_append_getElem hjl, List.mem_append] at hp
                rcases hp with hp | hp
                · exact hne p hp
                · rw [List.mem_singleton.1 hp]; exact heq
              case measure => simp [Go.RowKit.intOf]; omega
          · have hj' : j = k := by omega
            subst hj'
            go_wp2_with fail
            go_loopw [7] (fun i W => ∃ c : Nat, i = .int .i64 c ∧ c ≤ d.slots.length ∧ ((d.slots.take c).map (·.1)).Nodup ∧ SW w W (t + d.bal) z5 (accCells d ⟨sa, d.slots.length, sc⟩)) (fun i _ => d.slots.length - (Go.RowKit.intOf i).toNat)
            case atStart =>
              exact ⟨0, rfl, Nat.zero_le _, by simp, hS⟩
            case round =>
              obtain ⟨c, rfl, hc, hndk, hS⟩ := hrel
              have x7 := hS.x 7 _ rfl
              simp only [Nat.zero_add] at x7
              by_cases hcl : c < d.slots.length
              · have hcl' : (c : Int) < (d.slots.length : Int) := by omega
                go_wp2_with fail
                clear x7
                go_loopw [8] (fun i W => ∃ e : Nat, i = .int .i64 e ∧ e ≤ c ∧ (∀ q ∈ d.slots.take e, q.1 ≠ d.slots[c].1) ∧ SW w W (t + d.bal) z5 (accCells d ⟨sa, d.slots.length, sc⟩)) (fun i _ => c - (Go.RowKit.intOf i).toNat)
                case atStart =>
                  exact ⟨0, rfl, Nat.zero_le _, by simp, hS⟩
                case round =>
                  obtain ⟨e, rfl, he, hne2, hS⟩ := hrel
                  have x7 := hS.x 7 _ rfl
                  simp only [Nat.zero_add] at x7
                  by_cases hec : e < c
                  · have hec' : (e : Int) < (c : Int) := by omega
                    have hel : e < d.slots.length := by omega
                    have hel' : (e : Int) < (d.slots.length : Int) := by omega
                    obtain ⟨bs, os, rfl, hSl⟩ := hsl.resolve_left (by intro e; rw [e] at hcl; simp at hcl)
                    have hSl := hSl.below hS.below
                    have hce := hSl e d.slots[e] (List.getElem?_eq_getElem hel)
                    have hcc := hSl c d.slots[c] (List.getElem?_eq_getElem hcl)
                    have e0 := hce 0 _ rfl
                    have e1 := hce 1 _ rfl
                    have e2 := hce 2 _ rfl
                    have e3 := hce 3 _ rfl
                    have f0 := hcc 0 _ rfl
                    have f1 := hcc 1 _ rfl
                    have f2 := hcc 2 _ rfl
                    have f3 := hcc 3 _ rfl
                    rw [Nat.add_zero] at e0 f0
                    have hq : ∀ W, (Op.equalIn 10000 28 (wd d.slots[e].1) (wd d.slots[c].1)).run TryQ.prog W = .ok (decide (d.slots[e].1 = d.slots[c].1)) W := run_eqw d.slots[e].1 d.slots[c].1 (hkey _ (List.getElem_mem hel)).1 (hkey _ (List.getElem_mem hcl)).1
                    unfold wd at hq
                    clear hce hcc
                    go_wp2_with fail
                    go_region_held (fun W' => W'.cell? ⟨z5, 7, none⟩ = some (.slice (some ⟨bs, os, none⟩) d.slots.length sc) ∧ W'.cell? ⟨bs, os + e * 8, none⟩ = some (.int .u64 (lim d.slots[e].1 0)) ∧ W'.cell? ⟨bs, os + e * 8 + 1, none⟩ = some (.int .u64 (lim d.slots[e].1 1)) ∧ W'.cell? ⟨bs, os + e * 8 + 2, none⟩ = some (.int .u64 (lim d.slots[e].1 2)) ∧ W'.cell? ⟨bs, os + e * 8 + 3, none⟩ = some (.int .u64 (lim d.slots[e].1 3)) ∧ W'.cell? ⟨bs, os + c * 8, none⟩ = some (.int .u64 (lim d.slots[c].1 0)) ∧ W'.cell? ⟨bs, os + c * 8 + 1, none⟩ = some (.int .u64 (lim d.slots[c].1 1)) ∧ W'.cell? ⟨bs, os + c * 8 + 2, none⟩ = some (.int .u64 (lim d.slots[c].1 2)) ∧ W'.cell? ⟨bs, os + c * 8 + 3, none⟩ = some (.int .u64 (lim d.slots[c].1 3))) (go_keep) (fail)
                    have hS1 := hS.keep (Below.refl _ _).drew
                    by_cases heq : d.slots[e].1 = d.slots[c].1
                    · have hno : ¬ Sound (ds.map (·.1)) := fun h => keys_ne d e c hec hcl (h.2.1 d hdm) heq
                      go_wp2
                      simp [bodyPost, results, Tryz.results18, go_sem, hno]
                      exact hS1.below
                    · go_wp2_with fail
                      go_roundw
                      case rel =>
                        refine ⟨e + 1, by go_num, by omega, ?_, hS1⟩
                        intro p hp
                        rw [← List.take_append_getElem hel, List.mem_append] at hp
                        rcases hp with hp | hp
                        · exact hne2 p hp
                        · rw [List.mem_singleton.1 hp]; exact heq
                      case measure => simp [Go.RowKit.intOf]; omega
                  · have he' : e = c := by omega
                    subst he'
                    go_wp2_with fail
                    refine ⟨⟨e + 1, by go_num, by omega, nodup_snoc (·.1) d.slots e hcl hndk hne2, hS⟩, ?_⟩
                    simp [Go.RowKit.intOf]; omega
              · have hc' : c = d.slots.length := by omega
                subst hc'
                rw [List.take_length] at hndk
                go_wp2_with fail
                have hgk : ds[j] = (d, ⟨sa, d.slots.length, sc⟩) := Option.some.inj ((List.getElem?_eq_getElem hlt).symm.trans hgetk)
                refine ⟨⟨j + 1, by go_num, by omega, ?_, ?_, ?_, hS.below⟩, ?_⟩
                · intro p hp
                  rw [← List.take_append_getElem hlt, List.mem_append] at hp
                  rcases hp with hp | hp
                  · exact hok p hp
                  · rw [List.mem_singleton.1 hp, hgk]
                    exact ⟨h1, h2, h3, h4, h5, h6, hndk⟩
                · exact nodup_snoc (·.1.id) ds j hlt hnd (by rw [hgk]; exact hne)
                · rw [hsum]; exact hS.tot
                · simp [Go.RowKit.intOf]; omega
    · have hk' : k = ds.length := by omega
      subst hk'
      rw [List.take_length] at hok hnd hT
      have hMM : total ds < MM := by
        have h1 := total_lt ds hI.bal ds.length
        rw [List.take_length] at h1
        have h2 : ds.length * M ≤ 64 * M := Nat.mul_le_mul_right _ h64
        have h3 : 65 * M < MM := by decide
        have h4 : 0 < M := by decide
        omega
      go_wp2_with fail
      go_loopw [9] (fun i W => ∃ c : Nat, i = .int .i64 c ∧ 8 ≤ c ∧ c ≤ 16 ∧ (∀ j, 8 ≤ j → j < c → dig (total ds) j = 0) ∧ LH W w.heap.size (dl (total ds)) ∧ Below w.heap.size w W) (fun i _ => 16 - (Go.RowKit.intOf i).toNat)
      case atStart =>
        exact ⟨8, rfl, Nat.le_refl _, by omega, fun j h1 h2 => by omega, hT, hB⟩
      case round =>
        obtain ⟨c, rfl, hc8, hc, hz, hT, hB⟩ := hrel
        by_cases hcl : c < 16
        · have hcl' : (c : Int) < 16 := by omega
          have hd := hT.cell (dl_get (total ds) c hcl)
          have hnn : 0 ≤ dig (total ds) c := Int.natCast_nonneg _
          by_cases h0 : dig (total ds) c = 0
          · have h0' : ¬ 0 < dig (total ds) c := by omega
            go_wp2_with fail
            refine ⟨⟨c + 1, by go_num, by omega, by omega, fun j h1 h2 => ?_, hT, hB⟩, ?_⟩
            · rcases Nat.lt_or_ge j c with h3 | h3
              · exact hz j h1 h3
              · have : j = c := by omega
                rw [this]; exact h0
            · simp [Go.RowKit.intOf]; omega
          · have h0' : 0 < dig (total ds) c := by omega
            have hno : ¬ Sound (ds.map (·.1)) := fun h => h0 (dig_hi _ c (by have := h.2.2.2; simpa [total, Function.comp_def] using this) hc8)
            go_wp2
            simp [bodyPost, results, Tryz.results18, go_sem, hno]
            exact hB
        · have hc' : c = 16 := by omega
          subst hc'
          have hS : Sound (ds.map (·.1)) := ⟨by simpa using h64, fun d hd => by obtain ⟨p, hp, rfl⟩ := List.mem_map.1 hd; exact hok p hp, by simpa [Function.comp_def] using hnd, by
            have := small_of_dig (total ds) hMM hz
            simpa [total, Function.comp_def] using this⟩
          go_wp2
          simp [bodyPost, results, Tryz.results18, go_sem, hS]
          exact hB
end Go.Mark
