/-
  The operations of the model, one by one, run alike in the two worlds: append, strings out of bytes, calls.
-/
import Derived.Test.YtbephahokhnccaaGreatXA7toA9
namespace Go.Lift
variable {α β : Type} {P : Program} {F : Array Func} {Z : Veil}
theorem lk_ite {c : Prop} [Decidable c] {x y : Sem α} (hx : Lk P F Z x) (hy : Lk P F Z y) : Lk P F Z (if c then x else y) := by
  by_cases h : c
  · rw [if_pos h]; exact hx
  · rw [if_neg h]; exact hy
/-- it only asks -/
def Asks (P : Program) (s : Sem α) : Prop := ∀ w, ∃ r, s.run P w = .ok r w ∧ ∀ es, s.events P w es = es
theorem ask_pure (a : α) : Asks P (pure a : Sem α) := fun _ => ⟨a, rfl, fun _ => rfl⟩
theorem ask_shape (r : Nat) : Asks P (shape r) := fun w => ⟨w.shape? r, rfl, fun _ => rfl⟩
theorem ask_frozen (a : Addr) : Asks P (frozen a) := fun w => ⟨w.frozen? a, rfl, fun _ => rfl⟩
theorem ask_bind {x : Sem α} {f : α → Sem β} (hx : Asks P x) (hf : ∀ a, Asks P (f a)) : Asks P (x >>= f) := by
  intro w
  obtain ⟨r, h1, h2⟩ := hx w
  obtain ⟨r', k1, k2⟩ := hf r w
  exact ⟨r', by rw [Sem.run_bind, h1]; exact k1, fun es => by rw [Sem.events_bind, h1, h2]; exact k2 es⟩
theorem ask_holds (a : Addr) (n : Nat) : Asks P (Builtin.holdsCells a n) := by
  unfold Builtin.holdsCells
  refine ask_bind (ask_shape _) (fun s => ?_)
  split <;> exact ask_pure _
theorem ask_share (a b c : Nat) (d : Option Addr) (x : Value) : Asks P (Builtin.mayShare a b c d x) := by
  have fin : ∀ t : Bool, Asks P (if (!t) = true then (pure true : Sem Bool) else
        match x with
        | Value.slice (some q) _ _ => do
          let r ← Builtin.holdsCells q (c * a)
          pure (!r || Option.any (fun x => x.block == q.block) d)
        | _ => pure false) := by
    intro t
    split
    · exact ask_pure _
    · split
      · exact ask_bind (ask_holds _ _) (fun _ => ask_pure _)
      · exact ask_pure _
  unfold Builtin.mayShare
  dsimp only
  split
  · exact ask_bind (ask_pure _) fin
  · exact ask_bind (ask_holds _ _) (fun _ => ask_bind (ask_frozen _) (fun _ => ask_bind (ask_pure _) fin))
/-- what asks, and then ends the run, whatever it heard -/
theorem lk_askHalt {x : Sem α} {f : α → Sem β} {h : Halt} (hh : HaltOk h) (hx : ∀ R : Program, Asks R x) (hf : ∀ (R : Program) a w, (f a).run R w = .halt h w) (he : ∀ a w es B, AllClean Z B es → AllClean Z B ((f a).events P w es)) : Lk P F Z (x >>= f) := by
  refine lk_ok fun w v es B hr hc hB => ?_
  obtain ⟨r, h1, h2⟩ := hx P w
  obtain ⟨r', k1, _⟩ := hx (strip P F) v
  rw [Sem.run_bind, Sem.run_bind, Sem.events_bind, h1, k1, h2]
  simp only [Result.andThen_ok, Result.evThen_ok, hf]
  exact .inr ⟨⟨rfl, hh, .refl hr⟩, he r w es B hc⟩
theorem lk_shareEnd (a b c : Nat) (d : Option Addr) (x : Value) (s : String) : Lk P F Z (Builtin.mayShare a b c d x >>= fun r => if (!r) = true then (mark .noRoom >>= fun _ => (unsupported (.resourceLimit s) : Sem α)) else unsupported (.resourceLimit s)) := by
  refine lk_askHalt (h := .unsupported (.resourceLimit s)) trivial (fun R => ask_share _ _ _ _ _) (fun R r w => ?_) (fun r w es B hc => ?_)
  · cases r <;> rfl
  · cases r
    · exact clean_push hc (show Clean Z B ⟨.mark .noRoom, _, _⟩ from .inr rfl)
    · exact hc
set_option maxHeartbeats 4000000 in
theorem lk_append (t : Array TypeId) (u : TypeId) (x : Array Value) : Lk P F Z (Builtin.append_ t u x) := by
  unfold Builtin.append_
  try dsimp only
  repeat' first
    | assumption
    | (with_reducible exact lk_shareEnd _ _ _ _ _ _)
    | (with_reducible exact lk_firstCells _ _ _)
    | (with_reducible exact lk_lenOf _)
    | (with_reducible exact lk_askRoom _)
    | (with_reducible exact lk_asInt _)
    | (with_reducible exact lk_runtimePanic _)
    | (with_reducible exact lk_newRow _ _)
    | (with_reducible exact lk_storeCells _ _ _)
    | (with_reducible exact lk_sizeOf _)
    | (with_reducible exact lk_zeroValue _)
    | (with_reducible exact lk_underlying _)
    | (with_reducible exact lk_typeInfo _)
    | (with_reducible exact lk_choose _)
    | (with_reducible exact lk_stuck _)
    | (with_reducible exact lk_pure _)
    | (with_reducible refine lk_ite ?_ ?_)
    | (with_reducible refine lk_bind ?_ (fun _ => ?_))
    | split
    | dsimp only
    | intro _
end Go.Lift
