/-
  Both Works at MulMod: the same word.
  Both Works at Div, Mod, SDiv, SMod, AddMod: the same word; and so at every op.
-/
import Derived.Test.YtbephahokhnccaaWm
import Derived.Test.YtbephahokhnccaaJ12
import Derived.Test.YtbephahokhnccaaJ13
namespace Go.Proofs.Ytbephahokhnccaa
open Go.RowKit Go.Shelf

theorem rdiv_any (n c : Nat) (hn : n < MM) (hc : c < M) : ∃ q, ∀ w : World, Calls Try.prog 18 #[.agg (dl n).toArray, wd c] w fun e w' => e = .returned (.tuple #[wd q, wd (rmod n c)]) ∧ Below w.heap.size w w' := by
  by_cases h : c = 0
  · subst h
    refine ⟨0, fun w => ?_⟩
    rw [rmod_z]
    exact rdiv0 n w
  · refine ⟨n / c % M, fun w => ?_⟩
    have k := rdiv n c hn hc h w
    rw [Nat.mod_eq_of_lt (Nat.lt_trans (Nat.mod_lt n (Nat.pos_of_ne_zero h)) hc)] at k
    rw [rmod_p n c h]
    exact k
theorem both9 (a b c : Nat) (ha : a < M) (hb : b < M) (hc : c < M) : Both 9 a b c := by
  have hM : MM = M * M := by decide
  have hn : a * b < MM := by rw [hM]; exact Nat.mul_lt_mul'' ha hb
  obtain ⟨q, hq⟩ := rdiv_any (a * b) c hn hc
  exact ⟨rmod (a * b) c, fun w => pwork (nwork9 a b c ha hb hc) w, fun w => rwork9_w a b c q _ (dl (a * b)) (times a b ha hb) hq w⟩

end Go.Proofs.Ytbephahokhnccaa

namespace Go.Proofs.Ytbephahokhnccaa
open Go.RowKit Go.Shelf

theorem M_MM {n : Nat} (h : n < M) : n < MM := Nat.lt_of_lt_of_le h (by decide)
/-- Both results of divide at a word. -/
theorem rdiv_both (n c : Nat) (hn : n < M) (hc : c < M) (w : World) : Calls Try.prog 18 #[.agg (dl n).toArray, wd c] w fun e w' => e = .returned (.tuple #[wd (n / c), wd (rmod n c)]) ∧ Below w.heap.size w w' := by
  by_cases h : c = 0
  · subst h
    rw [rmod_z, Nat.div_zero]
    exact rdiv0 n w
  · have k := rdiv n c (M_MM hn) hc h w
    rw [Nat.mod_eq_of_lt (Nat.lt_trans (Nat.mod_lt n (Nat.pos_of_ne_zero h)) hc), Nat.mod_eq_of_lt (Nat.lt_of_le_of_lt (Nat.div_le_self n c) hn)] at k
    rw [rmod_p n c h]
    exact k
theorem both4 (a b c : Nat) (ha : a < M) (hb : b < M) : Both 4 a b c :=
  ⟨a / b, fun w => pwork (nwork4 a b c ha hb) w, rwork4_w a b c _ (fun w => rdvd4_w a b (a / b) (rmod a b) (dl a) (spreadL a ha) (rdiv_both a b ha hb) w)⟩
theorem both5 (a b c : Nat) (ha : a < M) (hb : b < M) : Both 5 a b c :=
  ⟨rmod a b, fun w => pwork (nwork5 a b c ha hb) w, rwork5_w a b c _ (fun w => rdvd5_w a b (a / b) (rmod a b) (dl a) (spreadL a ha) (rdiv_both a b ha hb) w)⟩
theorem both6 (a b c : Nat) (ha : a < M) (hb : b < M) : Both 6 a b c := by
  refine ⟨sdv a b, fun w => pwork (nwork6 a b c ha hb) w, rwork6_w a b c _ (fun w => ?_)⟩
  have sa := siz_lt a ha
  have sb := siz_lt b hb
  have H1 := rsize a ha
  have H2 := spreadL (siz a) sa
  have H3 := rsize b hb
  have H4 := rdiv_both (siz a) (siz b) sa sb
  have H5 := rnegative a ha
  have H6 := rnegative b hb
  have H7 := ropp (siz a / siz b) (div_lt _ _ sa)
  unfold sdv
  cases h : neg a <;> cases k : neg b <;> rw [h] at H5 <;> rw [k] at H6
  · exact rdvd6_ff a b _ _ _ _ _ _ H1 H2 H3 H4 H5 H6 rfl w
  · exact rdvd6_ft a b _ _ _ _ _ _ H1 H2 H3 H4 H5 H6 H7 w
  · exact rdvd6_tf a b _ _ _ _ _ _ H1 H2 H3 H4 H5 H6 H7 w
  · exact rdvd6_tt a b _ _ _ _ _ _ H1 H2 H3 H4 H5 H6 rfl w
theorem both7 (a b c : Nat) (ha : a < M) (hb : b < M) : Both 7 a b c := by
  refine ⟨smd a b, fun w => pwork (nwork7 a b c ha hb) w, rwork7_w a b c _ (fun w => ?_)⟩
  have sa := siz_lt a ha
  have sb := siz_lt b hb
  have H1 := rsize a ha
  have H2 := spreadL (siz a) sa
  have H3 := rsize b hb
  have H4 := rdiv_both (siz a) (siz b) sa sb
  have H5 := rnegative a ha
  have H6 := rnegative b hb
  have H7 := ropp (rmod (siz a) (siz b)) (rmod_lt _ _ sb)
  unfold smd
  cases h : neg a <;> rw [h] at H5
  · exact rdvd7_f a b _ _ _ _ _ _ _ H1 H2 H3 H4 H5 H6 rfl w
  · exact rdvd7_t a b _ _ _ _ _ _ _ H1 H2 H3 H4 H5 H6 H7 w
theorem both8 (a b c : Nat) (ha : a < M) (hb : b < M) (hc : c < M) : Both 8 a b c := by
  have hM : MM = M * M := by decide
  have h2 : 2 ≤ M := by decide
  have hn : a + b < MM := by
    rw [hM]
    exact Nat.lt_of_lt_of_le (show a + b < 2 * M by omega) (Nat.mul_le_mul_right M h2)
  obtain ⟨q, hq⟩ := rdiv_any (a + b) c hn hc
  have H3 := plus a b
  rw [Nat.mod_eq_of_lt hn] at H3
  exact ⟨rmod (a + b) c, fun w => pwork (nwork8 a b c ha hb hc) w, fun w => rwork8_w a b c q _ (dl a) (dl b) (dl (a + b)) (spreadL a ha) (spreadL b hb) H3 hq w⟩

theorem both_all (op : Int) (a b c : Nat) (ha : a < M) (hb : b < M) (hc : c < M) : Both op a b c := by
  by_cases h : op < 1 ∨ 22 < op
  · exact both_no op h a b c
  · have hx : op = 1 ∨ op = 2 ∨ op = 3 ∨ op = 4 ∨ op = 5 ∨ op = 6 ∨ op = 7 ∨ op = 8 ∨ op = 9 ∨ op = 10 ∨ op = 11 ∨ op = 12 ∨ op = 13 ∨ op = 14 ∨ op = 15 ∨ op = 16 ∨ op = 17 ∨ op = 18 ∨ op = 19 ∨ op = 20 ∨ op = 21 ∨ op = 22 := by omega
    rcases hx with h | h | h | h | h | h | h | h | h | h | h | h | h | h | h | h | h | h | h | h | h | h <;> subst h
    · exact both1 a b c ha hb
    · exact both2 a b c ha hb
    · exact both3 a b c ha hb
    · exact both4 a b c ha hb
    · exact both5 a b c ha hb
    · exact both6 a b c ha hb
    · exact both7 a b c ha hb
    · exact both8 a b c ha hb hc
    · exact both9 a b c ha hb hc
    · exact both10 a b c ha hb
    · exact both11 a b c ha hb
    · exact both12 a b c ha hb
    · exact both13 a b c ha hb
    · exact both14 a b c ha hb
    · exact both15 a b c ha hb
    · exact both16 a b c ha hb
    · exact both17 a b c ha hb
    · exact both18 a b c ha hb
    · exact both19 a b c ha hb
    · exact both20 a b c ha hb
    · exact both21 a b c ha hb
    · exact both22 a b c ha

end Go.Proofs.Ytbephahokhnccaa

