/-
  purserref: plus, minus, twice of numbers of sixteen digits: what they return.
  purserref: below of numbers of sixteen digits: what it returns.
-/
import Derived.Test.YtbephahokhnccaaL1
import Derived.Test.YtbephahokhnccaaR6
import Derived.Test.YtbephahokhnccaaExp
import Derived.Deep.CutRange
namespace Go.Proofs.Ytbephahokhnccaa
open Go.RowKit Go.Shelf

theorem dl_get (n k : Nat) (hk : k < 16) : (dl n)[k]? = some (.int .u64 (dig n k)) := by
  unfold dl
  rcases k with _ | _ | _ | _ | _ | _ | _ | _ | _ | _ | _ | _ | _ | _ | _ | _ | k
  iterate 16 rfl
  omega
/-- The first k digits of s, the others of a. -/
def mix (s a k : Nat) : List Value := (dl s).take k ++ (dl a).drop k
theorem mix_0 (s a : Nat) : mix s a 0 = dl a := by unfold mix; simp
theorem mix_16 (s a : Nat) : mix s a 16 = dl s := by unfold mix; rw [List.take_of_length_le (Nat.le_of_eq (dl_len s)), List.drop_of_length_le (Nat.le_of_eq (dl_len a))]; simp
theorem mix_len (s a k : Nat) (hk : k ≤ 16) : (mix s a k).length = 16 := by unfold mix; simp [dl_len]; omega
theorem mix_ll (s a k : Nat) (hk : k ≤ 16) : LL (mix s a k) := by
  refine ⟨mix_len s a k hk, ?_⟩
  rw [Array.all_eq_true_iff_forall_mem]
  intro v hv
  have hv : v ∈ mix s a k := by simpa using hv
  unfold mix at hv
  have h1 := fun n => Array.all_eq_true_iff_forall_mem.1 (dl_one n)
  rcases List.mem_append.1 hv with h | h
  · exact h1 s v (by simpa using List.mem_of_mem_take h)
  · exact h1 a v (by simpa using List.mem_of_mem_drop h)
theorem mix_get (s a k : Nat) (hk : k < 16) : (mix s a k)[k]? = some (.int .u64 (dig a k)) := by
  unfold mix
  rw [List.getElem?_append_right (by simp [dl_len]; omega)]
  simp only [List.length_take, dl_len, Nat.min_eq_left (Nat.le_of_lt hk), Nat.sub_self, List.getElem?_drop, Nat.add_zero]
  exact dl_get a k hk
theorem mix_set (s a k : Nat) (hk : k < 16) : (mix s a k).set k (.int .u64 (dig s k)) = mix s a (k + 1) := by
  unfold mix
  apply List.ext_getElem?
  intro j
  rw [List.getElem?_set]
  by_cases h : k = j
  · subst h
    rw [if_pos rfl, if_pos (by simp [dl_len]; omega), List.getElem?_append_left (by simp [dl_len]; omega), List.getElem?_take_of_lt (by omega), dl_get s k hk]
  · rw [if_neg h]
    by_cases hj : j < k
    · rw [List.getElem?_append_left (by simp [dl_len]; omega), List.getElem?_append_left (by simp [dl_len]; omega), List.getElem?_take_of_lt hj, List.getElem?_take_of_lt (by omega)]
    · rw [List.getElem?_append_right (by simp [dl_len]; omega), List.getElem?_append_right (by simp [dl_len]; omega)]
      simp only [List.length_take, dl_len, List.getElem?_drop]
      congr 1
      omega

theorem LH.setAt {W : World} {b k : Nat} {l : List Value} (h : LH W b l) (hl : l.length = 16) (hk : k < 16) (v : Value) : LH (W.setCell ⟨b, k, none⟩ v) b (l.set k v) := by
  refine ⟨fun j u hu => ?_, World.there_setCells h.t b k [v], by simpa using h.z⟩
  rw [Nat.zero_add]
  rw [List.getElem?_set] at hu
  by_cases e : k = j
  · subst e
    rw [if_pos rfl, if_pos (by omega)] at hu
    cases hu
    obtain ⟨x, hx⟩ := Option.isSome_iff_exists.1 (h.t k hk).1
    rw [Nat.zero_add] at hx
    exact World.cell?_setCell_same _ _ _ hx
  · rw [if_neg e] at hu
    rw [World.cell?_setCell_other _ _ _ _ (fun h => e (congrArg Addr.off h))]
    simpa using h.r j u hu
theorem LH.otherAt {W : World} {b c k : Nat} {l : List Value} (h : LH W b l) (hne : b ≠ c) (v : Value) : LH (W.setCell ⟨c, k, none⟩ v) b l :=
  ⟨World.rangeAt_setCells_apart h.r c k [v] (.inl hne), World.there_setCells h.t c k [v], by simpa using h.z⟩
theorem LH.cell {W : World} {b k : Nat} {l : List Value} {v : Value} (h : LH W b l) (hv : l[k]? = some v) : W.cell? ⟨b, k, none⟩ = some v := by
  have := h.r k v hv
  rwa [Nat.zero_add] at this
theorem LH.fz {W : World} {b k : Nat} {l : List Value} (h : LH W b l) (hk : k < 16) : W.frozen? ⟨b, k, none⟩ = false := by
  have := (h.t k hk).2
  rwa [Nat.zero_add] at this

/-- What is carried into digit k of a sum. -/
def cyP (a b k : Nat) : Nat := (a % 4294967296 ^ k + b % 4294967296 ^ k) / 4294967296 ^ k
theorem cyP_0 (a b : Nat) : cyP a b 0 = 0 := by unfold cyP; simp [Nat.mod_one]
theorem pow_pos' (k : Nat) : 0 < (4294967296 : Nat) ^ k := Nat.pow_pos (by decide)
theorem cyP_le (a b k : Nat) : cyP a b k ≤ 1 := by
  unfold cyP
  have h1 := Nat.mod_lt a (pow_pos' k); have h2 := Nat.mod_lt b (pow_pos' k)
  have : (a % 4294967296 ^ k + b % 4294967296 ^ k) / 4294967296 ^ k < 2 := Nat.div_lt_of_lt_mul (by omega)
  omega
theorem digN (n k : Nat) : dig n k = ((n / 4294967296 ^ k % 4294967296 : Nat) : Int) := rfl
theorem mod_next (n k : Nat) : n % 4294967296 ^ (k + 1) = n % 4294967296 ^ k + 4294967296 ^ k * (n / 4294967296 ^ k % 4294967296) := by
  rw [Nat.pow_succ, Nat.mod_mul]
theorem plus_dig (a b k : Nat) : dig a k + dig b k + cyP a b k = dig (a + b) k + cyP a b (k + 1) * 4294967296 := by
  have hp := pow_pos' k
  have e : (a % 4294967296 ^ (k + 1) + b % 4294967296 ^ (k + 1)) / 4294967296 ^ k = a / 4294967296 ^ k % 4294967296 + b / 4294967296 ^ k % 4294967296 + cyP a b k := by
    rw [mod_next, mod_next]
    have : a % 4294967296 ^ k + 4294967296 ^ k * (a / 4294967296 ^ k % 4294967296) + (b % 4294967296 ^ k + 4294967296 ^ k * (b / 4294967296 ^ k % 4294967296)) = (a % 4294967296 ^ k + b % 4294967296 ^ k) + 4294967296 ^ k * (a / 4294967296 ^ k % 4294967296 + b / 4294967296 ^ k % 4294967296) := by
      rw [Nat.mul_add]; omega
    rw [this, Nat.add_mul_div_left _ _ hp]
    unfold cyP
    omega
  have d : cyP a b (k + 1) = (a % 4294967296 ^ (k + 1) + b % 4294967296 ^ (k + 1)) / 4294967296 ^ k / 4294967296 := by
    unfold cyP
    rw [Nat.div_div_eq_div_mul, ← Nat.pow_succ]
  have f : (a + b) / 4294967296 ^ k % 4294967296 = (a % 4294967296 ^ (k + 1) + b % 4294967296 ^ (k + 1)) / 4294967296 ^ k % 4294967296 := by
    rw [← Nat.mod_mul_right_div_self (a + b), ← Nat.mod_mul_right_div_self (a % _ + b % _), ← Nat.pow_succ, ← Nat.add_mod]
  rw [digN, digN, digN, f, d]
  rw [e]
  omega
theorem dig_MM (n k : Nat) (hk : k < 16) : dig (n % MM) k = dig n k := by
  rw [digN, digN]
  have e : MM = 4294967296 ^ k * (4294967296 ^ (15 - k) * 4294967296) := by
    rw [← Nat.pow_succ, ← Nat.pow_add, show k + (15 - k + 1) = 16 by omega]
    decide
  rw [e, Nat.mod_mul_right_div_self, Nat.mod_mod_of_dvd _ ⟨_, Nat.mul_comm _ _⟩]

theorem split2 (X p q u v : Nat) (hp : p < 2 * X) (hq : q < X) (h : p + X * u = q + X * v) : (p = q ∧ u = v) ∨ (p = q + X ∧ u + 1 = v) := by
  rcases Nat.lt_trichotomy u v with c | c | c
  · obtain ⟨t, rfl⟩ := Nat.exists_eq_add_of_lt c
    right
    rw [Nat.mul_add, Nat.mul_add, Nat.mul_one] at h
    rcases t with _ | t
    · rw [Nat.mul_zero] at h; omega
    · have : X ≤ X * (t + 1) := Nat.le_mul_of_pos_right X (by omega)
      omega
  · subst c; left; omega
  · obtain ⟨t, rfl⟩ := Nat.exists_eq_add_of_lt c
    rw [Nat.mul_add, Nat.mul_add, Nat.mul_one] at h
    have := Nat.zero_le (X * t)
    omega
/-- What is borrowed from digit k of a difference. -/
def bwM (a b k : Nat) : Nat := if a % 4294967296 ^ k < b % 4294967296 ^ k then 1 else 0
theorem bwM_0 (a b : Nat) : bwM a b 0 = 0 := by unfold bwM; simp [Nat.mod_one]
theorem bwM_le (a b k : Nat) : bwM a b k ≤ 1 := by unfold bwM; split <;> omega
theorem minus_dig (a b k : Nat) (hb : b < MM) (hk : k < 16) : dig a k - dig b k - bwM a b k = dig ((a + MM - b) % MM) k - bwM a b (k + 1) * 4294967296 := by
  rw [dig_MM _ k hk]
  generalize hS : a + MM - b = S
  have hSb : S + b = a + MM := by omega
  have hX := pow_pos' k
  have hXB := pow_pos' (k + 1)
  have eM : MM = 4294967296 ^ (k + 1) * 4294967296 ^ (15 - k) := by
    rw [← Nat.pow_add, show k + 1 + (15 - k) = 16 by omega]
    decide
  have mS := Nat.mod_add_div S (4294967296 ^ (k + 1)); have mb := Nat.mod_add_div b (4294967296 ^ (k + 1)); have ma := Nat.mod_add_div a (4294967296 ^ (k + 1))
  have lS := Nat.mod_lt S hXB; have lb := Nat.mod_lt b hXB; have la := Nat.mod_lt a hXB
  have c1 := split2 (4294967296 ^ (k + 1)) (S % 4294967296 ^ (k + 1) + b % 4294967296 ^ (k + 1)) (a % 4294967296 ^ (k + 1)) (S / 4294967296 ^ (k + 1) + b / 4294967296 ^ (k + 1)) (a / 4294967296 ^ (k + 1) + 4294967296 ^ (15 - k)) (by omega) la
    (by rw [Nat.mul_add, Nat.mul_add, ← eM]; omega)
  have nS := mod_next S k; have nb := mod_next b k; have na := mod_next a k
  have rS := Nat.mod_lt S hX; have rb := Nat.mod_lt b hX; have ra := Nat.mod_lt a hX
  have eB : (4294967296 : Nat) ^ (k + 1) = 4294967296 ^ k * 4294967296 := Nat.pow_succ _ _
  have dS := Nat.mod_lt (S / 4294967296 ^ k) (y := 4294967296) (by decide)
  have dB := Nat.mod_lt (b / 4294967296 ^ k) (y := 4294967296) (by decide)
  have dA := Nat.mod_lt (a / 4294967296 ^ k) (y := 4294967296) (by decide)
  rw [digN, digN, digN]
  unfold bwM
  clear mS mb ma hS hSb hb eM
  generalize S / 4294967296 ^ k % 4294967296 = ds at *
  generalize b / 4294967296 ^ k % 4294967296 = db at *
  generalize a / 4294967296 ^ k % 4294967296 = da at *
  generalize S % 4294967296 ^ k = s0 at *
  generalize b % 4294967296 ^ k = b0 at *
  generalize a % 4294967296 ^ k = a0 at *
  rcases c1 with ⟨c1, -⟩ | ⟨c1, -⟩
  · have h2 : ¬ a % 4294967296 ^ (k + 1) < b % 4294967296 ^ (k + 1) := by omega
    rw [if_neg h2]
    have c2 := split2 (4294967296 ^ k) (s0 + b0) a0 (ds + db) da (by omega) ra (by rw [nS, nb, na] at c1; rw [Nat.mul_add]; omega)
    rcases c2 with ⟨c2, c3⟩ | ⟨c2, c3⟩
    · rw [if_neg (by omega)]; omega
    · rw [if_pos (by omega)]; omega
  · have h2 : a % 4294967296 ^ (k + 1) < b % 4294967296 ^ (k + 1) := by omega
    rw [if_pos h2]
    have c2 := split2 (4294967296 ^ k) (s0 + b0) a0 (ds + db) (da + 4294967296) (by omega) ra (by rw [nS, nb, na, eB] at c1; rw [Nat.mul_add, Nat.mul_add]; omega)
    rcases c2 with ⟨c2, c3⟩ | ⟨c2, c3⟩
    · rw [if_neg (by omega)]; omega
    · rw [if_pos (by omega)]; omega
theorem MM_even : MM % 2 = 0 := by decide
theorem dl_bump (m k : Nat) (hm : m % 2 = 0) (hk : k ≤ 1) : (dl m).set 0 (.int .u64 (dig m 0 + k)) = dl (m + k) := by
  have e : (m + k) / 4294967296 = m / 4294967296 := by omega
  have e0 : dig (m + k) 0 = dig m 0 + k := by rw [dig_zero, dig_zero]; omega
  have es : ∀ i, dig (m + k) (i + 1) = dig m (i + 1) := fun i => by rw [dig_succ, dig_succ, e]
  unfold dl
  rw [e0, es 0, es 1, es 2, es 3, es 4, es 5, es 6, es 7, es 8, es 9, es 10, es 11, es 12, es 13, es 14]
  rfl
theorem bump_wrap (m k : Nat) (hk : k ≤ 1) : IntKind.u64.wrap (dig m 0 + k) = dig m 0 + k := by
  have h0 := dig_nn m 0; have h1 := dig_lt m 0
  exact uw _ (by omega) (by omega)

/-- One digit of a sum: the number that comes out and what is carried. -/
theorem plus_step (x y c : Int) (x0 : 0 ≤ x) (x1 : x < 4294967296) (y0 : 0 ≤ y) (y1 : y < 4294967296) (c0 : 0 ≤ c) (c1 : c ≤ 1) :
    ∃ u d : Int, IntKind.u64.wrap (x + y) = x + y ∧ IntKind.u64.wrap (x + y + c) = x + y + c ∧ 0 ≤ x + y + c ∧ (x + y + c) % 4294967296 = u ∧ (x + y + c).tmod 4294967296 = u ∧
      IntKind.u64.wrap ((x + y + c).tdiv 4294967296) = d ∧ u + d * 4294967296 = x + y + c ∧ 0 ≤ u ∧ u < 4294967296 ∧ 0 ≤ d ∧ d ≤ 1 := by
  refine ⟨(x + y + c) % 4294967296, (x + y + c) / 4294967296, uw _ (by omega) (by omega), uw _ (by omega) (by omega), by omega, rfl, Int.tmod_eq_emod_of_nonneg (by omega), ?_, by omega, by omega, by omega, by omega, by omega⟩
  rw [Int.tdiv_eq_ediv_of_nonneg (by omega)]
  exact uw _ (by omega) (by omega)
theorem minus_step (x y c : Int) (x0 : 0 ≤ x) (x1 : x < 4294967296) (y0 : 0 ≤ y) (y1 : y < 4294967296) (c0 : 0 ≤ c) (c1 : c ≤ 1) :
    ∃ s u q d : Int, IntKind.u64.wrap (4294967296 + x) = 4294967296 + x ∧ IntKind.u64.wrap (4294967296 + x - y) = 4294967296 + x - y ∧ IntKind.u64.wrap (4294967296 + x - y - c) = s ∧ 0 ≤ s ∧ s % 4294967296 = u ∧ s.tmod 4294967296 = u ∧
      IntKind.u64.wrap (s.tdiv 4294967296) = q ∧ IntKind.u64.wrap (1 - q) = d ∧ u - d * 4294967296 = x - y - c ∧ 0 ≤ u ∧ u < 4294967296 ∧ 0 ≤ d ∧ d ≤ 1 := by
  refine ⟨4294967296 + x - y - c, (4294967296 + x - y - c) % 4294967296, (4294967296 + x - y - c) / 4294967296, 1 - (4294967296 + x - y - c) / 4294967296, uw _ (by omega) (by omega), uw _ (by omega) (by omega), uw _ (by omega) (by omega), by omega, rfl, Int.tmod_eq_emod_of_nonneg (by omega), ?_, uw _ (by omega) (by omega), by omega, by omega, by omega, by omega, by omega⟩
  rw [Int.tdiv_eq_ediv_of_nonneg (by omega)]
  exact uw _ (by omega) (by omega)

set_option maxHeartbeats 1000000 in
theorem plus (a b : Nat) (w : World) :
    Calls Try.prog 20 #[.agg (dl a).toArray, .agg (dl b).toArray] w fun e w' => e = .returned (.agg (dl ((a + b) % MM)).toArray) ∧ Below w.heap.size w w' := by
  go_enter Try.func20, Try.ntmps20
  go_wp2
  go_loopw [5, 6] (fun c i wr => ∃ k : Nat, i = .int .i64 k ∧ k ≤ 16 ∧ c = .int .u64 (cyP a b k) ∧ LH wr w.heap.size (mix ((a + b) % MM) a k) ∧ LH wr (w.heap.size + 1) (dl b) ∧ LH wr (w.heap.size + 1 + 1) (dl 0) ∧ Below w.heap.size w wr) (fun _ i _ => 16 - (intOf i).toNat)
  case atStart =>
    refine ⟨0, rfl, by decide, by rw [cyP_0]; rfl, ?_, ?_, ?_, below3 w _ _ _⟩
    · rw [mix_0]; exact ((lh_new w (ll_dl a)).alloc _).alloc _
    · have h := lh_new (w.alloc (.cells (dl a).toArray 34)) (ll_dl b)
      rw [show (w.alloc (.cells (dl a).toArray 34)).heap.size = w.heap.size + 1 by simp] at h
      exact h.alloc _
    · have h := lh_new0 ((w.alloc (.cells (dl a).toArray 34)).alloc (.cells (dl b).toArray 34))
      rw [show ((w.alloc (.cells (dl a).toArray 34)).alloc (.cells (dl b).toArray 34)).heap.size = w.heap.size + 1 + 1 by simp] at h
      exact h
  case round =>
    obtain ⟨k, rfl, hk, rfl, L0, L1, L2, hB⟩ := hrel
    by_cases hlt : k < 16
    · have hlt' : (k : Int) < 16 := by omega
      have c0 := L0.cell (mix_get _ a k hlt)
      have c1 := L1.cell (dl_get b k hlt)
      have f0 := L0.fz hlt
      have hd := plus_dig a b k
      have he := dig_MM (a + b) k hlt
      have b1 := dig_nn (a + b) k
      have b2 := dig_lt (a + b) k
      have hc := cyP_le a b k
      obtain ⟨u, d, k1, k2, k3, k4, k5, k6, k7, k8, k9, k10, k11⟩ := plus_step (dig a k) (dig b k) (cyP a b k) (dig_nn a k) (dig_lt a k) (dig_nn b k) (dig_lt b k) (by omega) (by omega)
      have eu : u = dig ((a + b) % MM) k := by omega
      have ed : d = cyP a b (k + 1) := by omega
      subst ed
      have HS := mix_set ((a + b) % MM) a k hlt
      rw [← eu] at HS
      clear hd he b1 b2 hc k7 k8 k9 k10 k11 eu
      go_wp2
      go_region
      go_wp2
      go_roundw
      case rel =>
        refine ⟨k + 1, by go_num, by omega, rfl, ?_, (L1.otherAt (by omega) _).drew, (L2.otherAt (by omega) _).drew, (hB.setCell (p := ⟨w.heap.size, k, none⟩) (Nat.le_refl _) _).drew⟩
        rw [← HS]
        exact (L0.setAt (mix_len _ a k hk) hlt _).drew
      case measure => simp [intOf]; omega
    · have hk16 : k = 16 := by omega
      subst hk16
      rw [mix_16] at L0
      go_upto_region 8 with fail
      refine wp_region_list ?_
      have hL := ll_dl ((a + b) % MM)
      refine ld34 L0 hL rfl rfl rfl ?_
      refine st34 L2 hL rfl rfl rfl rfl ?_
      replace hB := below_setCells (w.heap.size + 1 + 1) (dl ((a + b) % MM)) 0 _ _ _ hB (by omega)
      replace L2 := L2.set hL
      generalize wr.setCells (w.heap.size + 1 + 1) 0 (dl ((a + b) % MM)) = Wf at hB L2 ⊢
      go_wp2
      exact res34 Try.results20 rfl (L2.loadVar hL) ⟨rfl, hB⟩

set_option maxHeartbeats 1000000 in
theorem minus (a b : Nat) (hb : b < MM) (w : World) :
    Calls Try.prog 46 #[.agg (dl a).toArray, .agg (dl b).toArray] w fun e w' => e = .returned (.agg (dl ((a + MM - b) % MM)).toArray) ∧ Below w.heap.size w w' := by
  go_enter Try.func46, Try.ntmps46
  go_wp2
  go_loopw [5, 6] (fun c i wr => ∃ k : Nat, i = .int .i64 k ∧ k ≤ 16 ∧ c = .int .u64 (bwM a b k) ∧ LH wr w.heap.size (mix ((a + MM - b) % MM) a k) ∧ LH wr (w.heap.size + 1) (dl b) ∧ LH wr (w.heap.size + 1 + 1) (dl 0) ∧ Below w.heap.size w wr) (fun _ i _ => 16 - (intOf i).toNat)
  case atStart =>
    refine ⟨0, rfl, by decide, by rw [bwM_0]; rfl, ?_, ?_, ?_, below3 w _ _ _⟩
    · rw [mix_0]; exact ((lh_new w (ll_dl a)).alloc _).alloc _
    · have h := lh_new (w.alloc (.cells (dl a).toArray 34)) (ll_dl b)
      rw [show (w.alloc (.cells (dl a).toArray 34)).heap.size = w.heap.size + 1 by simp] at h
      exact h.alloc _
    · have h := lh_new0 ((w.alloc (.cells (dl a).toArray 34)).alloc (.cells (dl b).toArray 34))
      rw [show ((w.alloc (.cells (dl a).toArray 34)).alloc (.cells (dl b).toArray 34)).heap.size = w.heap.size + 1 + 1 by simp] at h
      exact h
  case round =>
    obtain ⟨k, rfl, hk, rfl, L0, L1, L2, hB⟩ := hrel
    by_cases hlt : k < 16
    · have hlt' : (k : Int) < 16 := by omega
      have c0 := L0.cell (mix_get _ a k hlt)
      have c1 := L1.cell (dl_get b k hlt)
      have f0 := L0.fz hlt
      have hd := minus_dig a b k hb hlt
      have b1 := dig_nn ((a + MM - b) % MM) k
      have b2 := dig_lt ((a + MM - b) % MM) k
      have hc := bwM_le a b k
      obtain ⟨s, u, q, d, k1, k2, k3, k4, k5, k6, j1, j2, k7, k8, k9, k10, k11⟩ := minus_step (dig a k) (dig b k) (bwM a b k) (dig_nn a k) (dig_lt a k) (dig_nn b k) (dig_lt b k) (by omega) (by omega)
      have eu : u = dig ((a + MM - b) % MM) k := by omega
      have ed : d = bwM a b (k + 1) := by omega
      subst ed
      have HS := mix_set ((a + MM - b) % MM) a k hlt
      rw [← eu] at HS
      clear hd b1 b2 hc k7 k8 k9 k10 k11 eu
      go_wp2
      go_region
      go_wp2
      go_roundw
      case rel =>
        refine ⟨k + 1, by go_num, by omega, rfl, ?_, (L1.otherAt (by omega) _).drew, (L2.otherAt (by omega) _).drew, (hB.setCell (p := ⟨w.heap.size, k, none⟩) (Nat.le_refl _) _).drew⟩
        rw [← HS]
        exact (L0.setAt (mix_len _ a k hk) hlt _).drew
      case measure => simp [intOf]; omega
    · have hk16 : k = 16 := by omega
      subst hk16
      rw [mix_16] at L0
      go_upto_region 8 with fail
      refine wp_region_list ?_
      have hL := ll_dl ((a + MM - b) % MM)
      refine ld34 L0 hL rfl rfl rfl ?_
      refine st34 L2 hL rfl rfl rfl rfl ?_
      replace hB := below_setCells (w.heap.size + 1 + 1) (dl ((a + MM - b) % MM)) 0 _ _ _ hB (by omega)
      replace L2 := L2.set hL
      generalize wr.setCells (w.heap.size + 1 + 1) 0 (dl ((a + MM - b) % MM)) = Wf at hB L2 ⊢
      go_wp2
      exact res34 Try.results46 rfl (L2.loadVar hL) ⟨rfl, hB⟩

set_option maxHeartbeats 1000000 in
theorem twice (n k : Nat) (hk : k ≤ 1) (w : World) :
    Calls Try.prog 50 #[.agg (dl n).toArray, .int .u64 k] w fun e w' => e = .returned (.agg (dl ((n + n) % MM + k)).toArray) ∧ Below w.heap.size w w' := by
  have hm : (n + n) % MM % 2 = 0 := by have := MM_even; have e : MM = 2 * (MM / 2) := by omega
                                       rw [e, Nat.mod_mul_right_mod]; omega
  have hp := plus n n
  generalize (n + n) % MM = m at hm hp ⊢
  have hw := bump_wrap m k hk
  have hs := dl_bump m k hm hk
  have hg := dl_get m 0 (by decide)
  have hLn := ll_dl n
  have hLm := ll_dl m
  have hLr := ll_dl (m + k)
  generalize dl n = ln at hp hLn ⊢
  generalize dl (m + k) = lr at hs hLr ⊢
  generalize dl m = lm at hp hs hg hLm ⊢
  clear hm hk
  generalize dig m 0 = x at hw hs hg
  go_enter Try.func50, Try.ntmps50
  go_upto_region 1 with fail
  have hB : Below w.heap.size w ((w.alloc (.cells ln.toArray 34)).alloc (.cells #[.int .u64 0, .int .u64 0, .int .u64 0, .int .u64 0, .int .u64 0, .int .u64 0, .int .u64 0, .int .u64 0, .int .u64 0, .int .u64 0, .int .u64 0, .int .u64 0, .int .u64 0, .int .u64 0, .int .u64 0, .int .u64 0] 34)) := ((Below.refl _ _).alloc (Nat.le_refl _) _).alloc (by simp) _
  have A0 := (lh_new w hLn).alloc (.cells #[.int .u64 0, .int .u64 0, .int .u64 0, .int .u64 0, .int .u64 0, .int .u64 0, .int .u64 0, .int .u64 0, .int .u64 0, .int .u64 0, .int .u64 0, .int .u64 0, .int .u64 0, .int .u64 0, .int .u64 0, .int .u64 0] 34)
  have A1 := lh_new0 (w.alloc (.cells ln.toArray 34))
  rw [show (w.alloc (.cells ln.toArray 34)).heap.size = w.heap.size + 1 by simp] at A1
  generalize (w.alloc (.cells ln.toArray 34)).alloc (.cells #[.int .u64 0, .int .u64 0, .int .u64 0, .int .u64 0, .int .u64 0, .int .u64 0, .int .u64 0, .int .u64 0, .int .u64 0, .int .u64 0, .int .u64 0, .int .u64 0, .int .u64 0, .int .u64 0, .int .u64 0, .int .u64 0] 34) = W0 at hB A0 A1 ⊢
  refine wp_region_list ?_
  refine ld34 A0 hLn rfl rfl rfl ?_
  refine ld34 A0 hLn rfl rfl rfl ?_
  go_wp2_with fail
  refine (hp _).mono ?_
  rintro e w1 ⟨rfl, hb1⟩
  replace A1 := A1.below hb1
  replace hB := hB.trans (hb1.mono hB.size)
  clear A0 hb1 hp
  have hlen := hLm.len
  have hsc : (storeCells ⟨w1.heap.size, 0, none⟩ lm 0).run Try.prog (w1.alloc (.cells #[.int .u64 0, .int .u64 0, .int .u64 0, .int .u64 0, .int .u64 0, .int .u64 0, .int .u64 0, .int .u64 0, .int .u64 0, .int .u64 0, .int .u64 0, .int .u64 0, .int .u64 0, .int .u64 0, .int .u64 0, .int .u64 0] 34)) = .ok () (w1.alloc (.cells lm.toArray 34)) := by
    simpa using run_storeCells_new (P := Try.prog) w1 34 #[.int .u64 0, .int .u64 0, .int .u64 0, .int .u64 0, .int .u64 0, .int .u64 0, .int .u64 0, .int .u64 0, .int .u64 0, .int .u64 0, .int .u64 0, .int .u64 0, .int .u64 0, .int .u64 0, .int .u64 0, .int .u64 0] lm.toArray (by simpa [hlen] using i34) (by simp [hlen]) hLm.one
  go_upto_region 2 with fail
  have hz1 : w.heap.size + 1 < w1.heap.size := A1.z
  have A5 := lh_new w1 hLm
  replace A1 := A1.alloc (.cells lm.toArray 34)
  replace hB := hB.alloc hB.size (.cells lm.toArray 34)
  clear hsc
  generalize w1.alloc (.cells lm.toArray 34) = W2 at A1 A5 hB ⊢
  have c0 := A5.cell hg
  have f0 := A5.fz (k := 0) (by decide)
  go_upto_region 3 with fail
  replace A5 := A5.setAt hlen (k := 0) (by decide) (.int .u64 (x + k))
  rw [hs] at A5
  replace A1 := A1.otherAt (c := w1.heap.size) (k := 0) (by omega) (.int .u64 (x + k))
  replace hB := hB.setCell (p := ⟨w1.heap.size, 0, none⟩) (show w.heap.size ≤ w1.heap.size by omega) (.int .u64 (x + k))
  clear c0 f0
  generalize W2.setCell ⟨w1.heap.size, 0, none⟩ (.int .u64 (x + k)) = W3 at A1 A5 hB ⊢
  refine wp_region_list ?_
  refine ld34 A5 hLr rfl rfl rfl ?_
  refine st34 A1 hLr rfl rfl rfl rfl ?_
  replace hB := below_setCells (w.heap.size + 1) lr 0 _ _ _ hB (by omega)
  replace A1 := A1.set hLr
  generalize W3.setCells (w.heap.size + 1) 0 lr = Wf at hB A1 ⊢
  go_wp2
  exact res34 Try.results50 rfl (A1.loadVar hLr) ⟨rfl, hB⟩

end Go.Proofs.Ytbephahokhnccaa

namespace Go.Proofs.Ytbephahokhnccaa
open Go.RowKit Go.Shelf

theorem up_dig (a j : Nat) : a / 4294967296 ^ j = a / 4294967296 ^ j % 4294967296 + 4294967296 * (a / 4294967296 ^ (j + 1)) := by
  rw [Nat.pow_succ, ← Nat.div_div_eq_div_mul]
  omega
theorem below_eq (a b j : Nat) (h : a / 4294967296 ^ (j + 1) = b / 4294967296 ^ (j + 1)) (e : dig a j = dig b j) : a / 4294967296 ^ j = b / 4294967296 ^ j := by
  rw [digN, digN] at e
  rw [up_dig a j, up_dig b j, h]
  omega
theorem below_lt (a b j : Nat) (h : a / 4294967296 ^ (j + 1) = b / 4294967296 ^ (j + 1)) (e : dig a j ≠ dig b j) : decide (dig a j < dig b j) = decide (a < b) := by
  have ua := up_dig a j
  have ub := up_dig b j
  rw [h] at ua
  rw [digN, digN] at *
  rcases Nat.lt_trichotomy (a / 4294967296 ^ j) (b / 4294967296 ^ j) with c | c | c
  · rw [decide_eq_true (show _ < _ by omega), decide_eq_true (Nat.lt_of_div_lt_div c)]
  · exact absurd (by omega) e
  · have hba := Nat.lt_of_div_lt_div c
    rw [decide_eq_false (show ¬ _ < _ by omega), decide_eq_false (show ¬ _ < _ by omega)]

set_option maxHeartbeats 1000000 in
theorem below (a b : Nat) (ha : a < MM) (hb : b < MM) (w : World) :
    Calls Try.prog 52 #[.agg (dl a).toArray, .agg (dl b).toArray] w fun e w' => e = .returned (.bool (decide (a < b))) ∧ Below w.heap.size w w' := by
  have h16 : a / 4294967296 ^ 16 = b / 4294967296 ^ 16 := by
    rw [Nat.div_eq_of_lt (show a < 4294967296 ^ 16 from ha), Nat.div_eq_of_lt (show b < 4294967296 ^ 16 from hb)]
  go_enter Try.func52, Try.ntmps52
  go_wp2
  go_loopw [5] (fun i wr => ((∃ j : Nat, i = .int .i64 j ∧ j < 16 ∧ a / 4294967296 ^ (j + 1) = b / 4294967296 ^ (j + 1)) ∨ (i = .int .i64 (-1) ∧ a = b)) ∧ LH wr w.heap.size (dl a) ∧ LH wr (w.heap.size + 1) (dl b) ∧ Below w.heap.size w wr) (fun i _ => (intOf i + 1).toNat)
  case atStart =>
    refine ⟨.inl ⟨15, rfl, by decide, h16⟩, (lh_new w (ll_dl a)).alloc _, ?_, ((Below.refl _ _).alloc (Nat.le_refl _) _).alloc (by simp) _⟩
    have h := lh_new (w.alloc (.cells (dl a).toArray 34)) (ll_dl b)
    rw [show (w.alloc (.cells (dl a).toArray 34)).heap.size = w.heap.size + 1 by simp] at h
    exact h
  case round =>
    clear h16
    obtain ⟨h, L0, L1, hB⟩ := hrel
    rcases h with ⟨j, rfl, hj, he⟩ | ⟨rfl, he⟩
    · have hj' : (0 : Int) ≤ j := by omega
      have hj2 : (j : Int) < 16 := by omega
      have c0 := L0.cell (dl_get a j hj)
      have c1 := L1.cell (dl_get b j hj)
      by_cases hx : dig a j = dig b j
      · have hq : (dig a j != dig b j) = false := by simp [hx]
        have hn := below_eq a b j he hx
        clear hx he
        go_wp2
        go_region
        go_wp2
        go_roundw
        case rel =>
          refine ⟨?_, L0.drew, L1.drew, hB.drew⟩
          rcases j with _ | j
          · right; exact ⟨by go_num, by simpa using hn⟩
          · left; exact ⟨j, by go_num, by omega, hn⟩
        case measure => simp [intOf]
      · have hq : (dig a j != dig b j) = true := by simp [hx]
        have hr := below_lt a b j he hx
        go_wp2
        go_region
        go_wp2
        go_region
        go_wp2
        go_ret
        exact ⟨by rw [← hr]; rfl, hB.drew.drew⟩
    · have e : decide (a < b) = false := decide_eq_false (by omega)
      go_wp2
      go_ret
      exact ⟨by rw [e]; rfl, hB⟩

end Go.Proofs.Ytbephahokhnccaa

