/-
  Both Works at each op of one call: the same word.
-/
import Derived.Test.YtbephahokhnccaaWl
import Derived.Test.YtbephahokhnccaaL14
import Derived.Test.YtbephahokhnccaaDm
namespace Go.Proofs.Ytbephahokhnccaa

/-- purser.Work and the document's own answer are one word. -/
def Both (op : Int) (a b c : Nat) : Prop := ∃ r, PW op a b c r ∧ RWork op a b c r

theorem MM_dvd : M ∣ MM := ⟨M, by decide⟩
theorem both1 (a b c : Nat) (ha : a < M) (hb : b < M) : Both 1 a b c := by
  refine ⟨(a + b) % M, fun w => pwork (fun w => nwork1 a b c ha hb w) w, ?_⟩
  have h := rwork1 a b c ha hb
  rw [Nat.mod_mod_of_dvd _ MM_dvd] at h
  exact h
theorem both2 (a b c : Nat) (ha : a < M) (hb : b < M) : Both 2 a b c := by
  refine ⟨(a + M - b) % M, fun w => pwork (fun w => nwork2 a b c ha hb w) w, ?_⟩
  have h := rwork2 a b c ha hb
  have hp := M_pos
  have hM : MM = M + M * (M - 1) := by decide
  rw [Nat.mod_mod_of_dvd _ MM_dvd, hM, show a + (M + M * (M - 1)) - b = a + M - b + M * (M - 1) by omega, Nat.add_mul_mod_self_left] at h
  exact h
theorem both3 (a b c : Nat) (ha : a < M) (hb : b < M) : Both 3 a b c := ⟨a * b % M, fun w => pwork (fun w => nwork3 a b c ha hb w) w, rwork3 a b c ha hb⟩
theorem both10 (a b c : Nat) (ha : a < M) (hb : b < M) : Both 10 a b c := ⟨a ^ b % M, fun w => pwork (fun w => nwork10 a b c ha hb w) w, rwork10 a b c ha hb⟩
theorem both11 (a b c : Nat) (ha : a < M) (hb : b < M) : Both 11 a b c := ⟨extv a b, fun w => pwork (nwork11g a b c ha) w, rwork11 a b c ha hb⟩
theorem both12 (a b c : Nat) (ha : a < M) (hb : b < M) : Both 12 a b c := ⟨tw (decide (a < b)), fun w => pwork (nwork12 a b c ha hb) w, rwork12 a b c ha hb⟩
theorem both13 (a b c : Nat) (ha : a < M) (hb : b < M) : Both 13 a b c := ⟨tw (decide (b < a)), fun w => pwork (nwork13 a b c ha hb) w, rwork13 a b c ha hb⟩
theorem slt_ref (a b : Nat) : ((neg a && !neg b) || (neg a == neg b && decide (a < b))) = slt a b := by
  unfold slt
  cases neg a <;> cases neg b <;> simp
theorem slt_ref' (a b : Nat) : ((!neg a && neg b) || (neg a == neg b && decide (b < a))) = slt b a := by
  unfold slt
  cases neg a <;> cases neg b <;> simp
theorem both14 (a b c : Nat) (ha : a < M) (hb : b < M) : Both 14 a b c := by
  refine ⟨tw (slt a b), fun w => pwork (nwork14 a b c ha hb) w, ?_⟩
  have h := rwork14 a b c ha hb
  rw [slt_ref] at h
  exact h
theorem both15 (a b c : Nat) (ha : a < M) (hb : b < M) : Both 15 a b c := by
  refine ⟨tw (slt b a), fun w => pwork (nwork15 a b c ha hb) w, ?_⟩
  have h := rwork15 a b c ha hb
  rw [slt_ref'] at h
  exact h
theorem both16 (a b c : Nat) (ha : a < M) (hb : b < M) : Both 16 a b c := ⟨tw (decide (a = b)), fun w => pwork (nwork16 a b c ha hb) w, rwork16 a b c ha hb⟩
theorem both17 (a b c : Nat) (ha : a < M) (hb : b < M) : Both 17 a b c := ⟨tw (decide (a = 0)), fun w => pwork (nwork17 a b c ha) w, rwork17 a b c ha hb⟩
theorem both18 (a b c : Nat) (ha : a < M) (hb : b < M) : Both 18 a b c := by
  refine ⟨a &&& b, fun w => pwork (nwork18 a b c) w, ?_⟩
  have h := rwork18 a b c ha hb
  rw [Nat.mod_eq_of_lt (and_lt a b ha)] at h
  exact h
theorem both19 (a b c : Nat) (ha : a < M) (hb : b < M) : Both 19 a b c := by
  refine ⟨a ||| b, fun w => pwork (nwork19 a b c) w, ?_⟩
  have h := rwork19 a b c ha hb
  rw [Nat.mod_eq_of_lt (or_lt a b ha hb)] at h
  exact h
theorem both20 (a b c : Nat) (ha : a < M) (hb : b < M) : Both 20 a b c := by
  refine ⟨a ^^^ b, fun w => pwork (nwork20 a b c) w, ?_⟩
  have h := rwork20 a b c ha hb
  rw [Nat.mod_eq_of_lt (xor_lt a b ha hb)] at h
  exact h
theorem both21 (a b c : Nat) (ha : a < M) (hb : b < M) : Both 21 a b c := by
  refine ⟨M - 1 - a, fun w => pwork (fun w => nwork21 a b c ha w) w, ?_⟩
  have h := rwork21 a b c ha hb
  rw [Nat.mod_eq_of_lt (show M - 1 - a < M by omega)] at h
  exact h
theorem both22 (a b c : Nat) (ha : a < M) : Both 22 a b c := ⟨bytev a b, fun w => pwork (nwork22g a b c ha) w, fun w => rwork22 a b c ha w⟩
theorem both_no (op : Int) (h : op < 1 ∨ 22 < op) (a b c : Nat) : Both op a b c := ⟨0, fun w => pwork (nwork_no op h a b c) w, rwork_no op h a b c⟩

end Go.Proofs.Ytbephahokhnccaa
