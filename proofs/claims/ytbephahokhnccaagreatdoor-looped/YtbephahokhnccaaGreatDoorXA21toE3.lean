import Derived.Test.YtbephahokhnccaaGreatDoorXA17toA19
import Derived.Test.YtbephahokhnccaaGreatDoorProg
namespace Go.Lift
open Go.Extern
variable {α β : Type} {P : Program} {F : Array Func} {Z : Veil}
theorem namesPacked_strip : ∀ (d : Nat) (t : TypeId), (strip P F).namesPacked d t = P.namesPacked d t
 | 0, _ => rfl
 | d + 1, t => by
  have ih : (strip P F).namesPacked d = P.namesPacked d := funext fun t => namesPacked_strip d t
  simp only [Program.namesPacked, ih, packed_strip]
  rfl
theorem methodsPack_strip : ∀ (d : Nat) (t : TypeId), (strip P F).methodsOfAPack d t = P.methodsOfAPack d t
 | 0, _ => rfl
 | d + 1, t => by
  have ih : (strip P F).methodsOfAPack d = P.methodsOfAPack d := funext fun t => methodsPack_strip d t
  simp only [Program.methodsOfAPack, ih, packed_strip]
  rfl
theorem lk_when {f : Program -> Bool} {u : Unsupported} (hu : ∀ g, u ≠ .initOrder g) (h : f (strip P F) = f P) : Lk P F Z (program >>= fun p => if f p = true then (unsupported u : Sem Unit) else pure ()) := by
 refine lk_program (by rw [h]) ?_
 exact lk_ite (lk_unsupported _ hu) (lk_pure _)
theorem lk_when2 {f : Program -> Program -> Bool} {u : Unsupported} (hu : ∀ g, u ≠ .initOrder g) (h1 : ∀ q, f (strip P F) q = f P q) (h2 : ∀ q, f q (strip P F) = f q P) : Lk P F Z (program >>= fun p => program >>= fun q => if f p q = true then (unsupported u : Sem Unit) else pure ()) := by
 refine lk_program (by simp only [h1]) ?_
 refine lk_program (by rw [h2]) ?_
 exact lk_ite (lk_unsupported _ hu) (lk_pure _)
theorem lk_noPack (s : String) (t : TypeId) : Lk P F Z (Rtype.noPack s t) := lk_when (f := fun p => p.packed t) (fun g h => by cases h) (packed_strip t)
theorem lk_noPackHeld (s : String) (t : TypeId) : Lk P F Z (Rtype.noPackHeld s t) := lk_when2 (f := fun p q => p.holdsPacked q.depth t) (fun g h => by cases h) (fun q => holdsPacked_strip _ t) (fun q => rfl)
theorem lk_noPackNamed (s : String) (t : TypeId) : Lk P F Z (Rtype.noPackNamed s t) := lk_when2 (f := fun p q => p.namesPacked q.depth t) (fun g h => by cases h) (fun q => namesPacked_strip _ t) (fun q => rfl)
theorem lk_noPackMethods (s : String) (t : TypeId) : Lk P F Z (Rtype.noPackMethods s t) := lk_when2 (f := fun p q => p.methodsOfAPack q.depth t) (fun g h => by cases h) (fun q => methodsPack_strip _ t) (fun q => rfl)
theorem lk_handle (t : TypeId) : Lk P F Z (Rtype.handle t) := by
 unfold Rtype.handle
 repeat' first
  | assumption
  | (with_reducible exact lk_pure _)
  | ((with_reducible refine lk_program ?_ ?_); · exact rfl)
  | split
  | dsimp only
  | intro _
theorem lk_ofHandle (h : Value) : Lk P F Z (Rtype.ofHandle h) := by
 unfold Rtype.ofHandle
 repeat' first
  | assumption
  | (with_reducible exact lk_stuck _)
  | (with_reducible exact lk_pure _)
  | ((with_reducible refine lk_program ?_ ?_); · exact rfl)
  | split
  | dsimp only
  | intro _
theorem lk_spelt (t : TypeId) : Lk P F Z (Rtype.spelt t) := by
 unfold Rtype.spelt
 repeat' first
  | assumption
  | (with_reducible exact lk_noPackNamed _ _)
  | (with_reducible exact lk_typeStr _)
  | (with_reducible refine lk_bind ?_ (fun _ => ?_))
  | split
  | dsimp only
  | intro _
theorem lk_cutType (n : String) : Lk P F Z (Go.cutType n) := by
 unfold Go.cutType
 repeat' first
  | assumption
  | (with_reducible exact lk_stuck _)
  | (with_reducible exact lk_pure _)
  | ((with_reducible refine lk_program ?_ ?_); · exact rfl)
  | split
  | dsimp only
  | intro _
theorem lk_panicString (n : String) : Lk P F Z ((panicString n : Sem α)) := by
 unfold panicString
 repeat' first
  | assumption
  | (with_reducible exact lk_goPanic _)
  | ((with_reducible refine lk_program ?_ ?_); · exact rfl)
  | split
  | dsimp only
  | intro _
theorem lk_rUnder (t : TypeId) : Lk P F Z (Rtype.under t) := by
 unfold Rtype.under
 repeat' first
  | assumption
  | (with_reducible exact lk_typeInfo _)
  | (with_reducible exact lk_pure _)
  | (with_reducible refine lk_bind ?_ (fun _ => ?_))
  | split
  | dsimp only
  | intro _
theorem lk_kind (t : TypeId) : Lk P F Z (Rtype.kind t) := by
 unfold Rtype.kind
 repeat' first
  | assumption
  | (with_reducible exact lk_rUnder _)
  | (with_reducible exact lk_stuck _)
  | (with_reducible exact lk_pure _)
  | (with_reducible refine lk_bind ?_ (fun _ => ?_))
  | split
  | dsimp only
  | intro _
theorem lk_hasName (t : TypeId) : Lk P F Z (Rtype.hasName t) := by
 unfold Rtype.hasName
 repeat' first
  | assumption
  | (with_reducible exact lk_typeInfo _)
  | (with_reducible exact lk_pure _)
  | (with_reducible refine lk_bind ?_ (fun _ => ?_))
  | split
  | dsimp only
  | intro _
theorem lk_elemQ (t : TypeId) : Lk P F Z (Rtype.elem? t) := by
 unfold Rtype.elem?
 repeat' first
  | assumption
  | (with_reducible exact lk_rUnder _)
  | (with_reducible exact lk_pure _)
  | (with_reducible refine lk_bind ?_ (fun _ => ?_))
  | split
  | dsimp only
  | intro _
theorem lk_implements (t u : TypeId) : Lk P F Z (Rtype.implements t u) := by
 unfold Rtype.implements
 repeat' first
  | assumption
  | (with_reducible exact lk_noPackMethods _ _)
  | (with_reducible exact lk_rUnder _)
  | (with_reducible exact lk_typeInfo _)
  | (with_reducible exact lk_pure _)
  | (with_reducible refine lk_bind ?_ (fun _ => ?_))
  | split
  | dsimp only
  | intro _
theorem lk_direct (t u : TypeId) : Lk P F Z (Rtype.directlyAssignable t u) := by
 unfold Rtype.directlyAssignable
 repeat' first
  | assumption
  | (with_reducible exact lk_rUnder _)
  | (with_reducible exact lk_hasName _)
  | (with_reducible exact lk_pure _)
  | (with_reducible refine lk_bind ?_ (fun _ => ?_))
  | (with_reducible refine lk_ite ?_ ?_)
  | split
  | dsimp only
  | intro _
theorem lk_toType (t : TypeId) : Lk P F Z (ReflectliteType.toType t) := by
 unfold ReflectliteType.toType
 repeat' first
  | assumption
  | (with_reducible exact lk_handle _)
  | (with_reducible exact lk_cutType _)
  | (with_reducible exact lk_pure _)
  | (with_reducible refine lk_bind ?_ (fun _ => ?_))
  | split
  | dsimp only
  | intro _
theorem lk_ofRtype (h : Value) : Lk P F Z (ReflectliteType.ofRtype h) := by
 unfold ReflectliteType.ofRtype
 cases h with
 | agg x =>
  obtain ⟨l⟩ := x
  rcases l with _ | ⟨a, _ | ⟨b, l⟩⟩
  ·exact lk_stuck _
  ·exact lk_bind (lk_ofHandle _) (fun _ => lk_bind (lk_noPack _ _) (fun _ => lk_pure _))
  ·exact lk_stuck _
 | _ => exact lk_stuck _
theorem lk_valueError (m : String) (k : Nat) : Lk P F Z ((ReflectliteValue.valueError m k : Sem α)) := by
 unfold ReflectliteValue.valueError
 repeat' first
  | assumption
  | (with_reducible exact lk_cutType _)
  | (with_reducible exact lk_newVar _ _)
  | (with_reducible exact lk_elemOf _)
  | (with_reducible exact lk_goPanic _)
  | (with_reducible refine lk_bind ?_ (fun _ => ?_))
  | split
  | dsimp only
  | intro _
theorem lk_mkV (t : TypeId) (a : Addr) (n : Nat) : Lk P F Z (ReflectliteValue.mk t a n) := by
 unfold ReflectliteValue.mk
 repeat' first
  | assumption
  | (with_reducible exact lk_handle _)
  | (with_reducible exact lk_kind _)
  | (with_reducible exact lk_pure _)
  | (with_reducible refine lk_bind ?_ (fun _ => ?_))
  | split
  | dsimp only
  | intro _
theorem lk_partsAny (x : Value) : Lk P F Z (ReflectliteValue.partsAny x) := by
 unfold ReflectliteValue.partsAny
 cases x with
 | agg x =>
  obtain ⟨l⟩ := x
  rcases l with _ | ⟨a, _ | ⟨b, _ | ⟨c, _ | ⟨d, l⟩⟩⟩⟩
  ·exact lk_stuck _
  ·exact lk_stuck _
  ·exact lk_stuck _
  ·cases c with
   | int k n =>
    cases k with
    | u64 =>
     cases n with
     | ofNat n =>
      cases n with
      | zero => exact lk_pure _
      | succ n =>
       cases b with
       | pointer p =>
        cases p with
        | none => exact lk_stuck _
        | some a' => exact lk_bind (lk_ofHandle _) (fun _ => lk_pure _)
       | _ => exact lk_stuck _
     | negSucc n =>
      cases b with
      | pointer p =>
       cases p with
       | none => exact lk_stuck _
       | some a' => exact lk_bind (lk_ofHandle _) (fun _ => lk_pure _)
      | _ => exact lk_stuck _
    | _ => exact lk_stuck _
   | _ => exact lk_stuck _
  ·exact lk_stuck _
 | _ => exact lk_stuck _
theorem lk_parts (x : Value) : Lk P F Z (ReflectliteValue.parts x) := by
 unfold ReflectliteValue.parts
 repeat' first
  | assumption
  | (with_reducible exact lk_noPack _ _)
  | (with_reducible exact lk_partsAny _)
  | (with_reducible exact lk_pure _)
  | (with_reducible refine lk_bind ?_ (fun _ => ?_))
  | split
  | dsimp only
  | intro _
theorem lk_rTypeOf (x : Array Value) : Lk P F Z (ReflectliteType.typeOf x) := by
 unfold ReflectliteType.typeOf
 obtain ⟨l⟩ := x
 rcases l with _ | ⟨a, _ | ⟨b, l⟩⟩
 ·exact lk_stuck _
 ·cases a with
  | nilIface => exact lk_pure _
  | iface t v => exact lk_toType _
  | _ => exact lk_stuck _
 ·exact lk_stuck _
theorem lk_rUnpack (x : Value) : Lk P F Z (ReflectliteValue.unpack x) := by
 unfold ReflectliteValue.unpack
 repeat' first
  | assumption
  | (with_reducible exact lk_mkV _ _ _)
  | (with_reducible exact lk_newVar _ _)
  | (with_reducible exact lk_stuck _)
  | (with_reducible exact lk_pure _)
  | (with_reducible refine lk_bind ?_ (fun _ => ?_))
  | split
  | dsimp only
  | intro _
theorem lk_rElem (t : TypeId) : Lk P F Z (ReflectliteType.elem t) := by
 unfold ReflectliteType.elem
 repeat' first
  | assumption
  | (with_reducible exact lk_spelt _)
  | (with_reducible exact lk_panicString _)
  | (with_reducible exact lk_elemQ _)
  | (with_reducible exact lk_toType _)
  | (with_reducible refine lk_bind ?_ (fun _ => ?_))
  | split
  | dsimp only
  | intro _
theorem lk_rImpl (t u : TypeId) : Lk P F Z (ReflectliteType.implements_ t u) := by
 unfold ReflectliteType.implements_
 repeat' first
  | assumption
  | (with_reducible exact lk_noPack _ _)
  | (with_reducible exact lk_noPackMethods _ _)
  | (with_reducible exact lk_panicString _)
  | (with_reducible exact lk_kind _)
  | (with_reducible exact lk_implements _ _)
  | (with_reducible refine lk_bind ?_ (fun _ => ?_))
  | (with_reducible refine lk_ite ?_ ?_)
  | split
  | dsimp only
  | intro _
theorem lk_rAssign (t u : TypeId) : Lk P F Z (ReflectliteType.assignableTo t u) := by
 unfold ReflectliteType.assignableTo
 repeat' first
  | assumption
  | (with_reducible exact lk_noPackMethods _ _)
  | (with_reducible exact lk_implements _ _)
  | (with_reducible exact lk_direct _ _)
  | (with_reducible exact lk_pure _)
  | (with_reducible refine lk_bind ?_ (fun _ => ?_))
  | (with_reducible refine lk_ite ?_ ?_)
  | split
  | dsimp only
  | intro _
theorem lk_vIsNil (t : TypeId) (a : Addr) (n m : Nat) : Lk P F Z (ReflectliteValue.isNil t a n m) := by
 unfold ReflectliteValue.isNil
 repeat' first
  | assumption
  | (with_reducible exact lk_valueError _ _)
  | (with_reducible exact lk_loadVar _ _)
  | (with_reducible exact lk_pure _)
  | (with_reducible refine lk_bind ?_ (fun _ => ?_))
  | (with_reducible refine lk_ite ?_ ?_)
  | split
  | dsimp only
  | intro _
theorem lk_vElem (t : TypeId) (a : Addr) (n m : Nat) : Lk P F Z (ReflectliteValue.elem t a n m) := by
 unfold ReflectliteValue.elem
 repeat' first
  | assumption
  | (with_reducible exact lk_elemQ _)
  | (with_reducible exact lk_valueError _ _)
  | (with_reducible exact lk_mkV _ _ _)
  | (with_reducible exact lk_rUnpack _)
  | (with_reducible exact lk_loadVar _ _)
  | (with_reducible exact lk_pure _)
  | (with_reducible refine lk_bind ?_ (fun _ => ?_))
  | (with_reducible refine lk_ite ?_ ?_)
  | split
  | dsimp only
  | intro _
theorem lk_vSet (x : Array Value) : Lk P F Z (ReflectliteValue.set x) := by
 unfold ReflectliteValue.set
 obtain ⟨l⟩ := x
 rcases l with _ | ⟨a, _ | ⟨b, _ | ⟨c, l⟩⟩⟩
 ·exact lk_stuck _
 ·exact lk_stuck _
 ·refine lk_bind (lk_parts a) (fun p => lk_bind (lk_parts b) (fun q => ?_))
  repeat' first
   | assumption
   | (with_reducible exact lk_spelt _)
   | (with_reducible exact lk_panicString _)
   | (with_reducible exact lk_kind _)
   | (with_reducible exact lk_implements _ _)
   | (with_reducible exact lk_direct _ _)
   | (with_reducible exact lk_parts _)
   | (with_reducible exact lk_loadVar _ _)
   | (with_reducible exact lk_storeVar _ _ _)
   | (with_reducible exact lk_unoEntry _)
   | (with_reducible exact lk_stuck _)
   | (with_reducible exact lk_pure _)
   | (with_reducible refine lk_bind ?_ (fun _ => ?_))
   | (with_reducible refine lk_ite ?_ ?_)
   | split
   | dsimp only
   | intro _
 ·exact lk_stuck _
theorem lk_rMethod {f : TypeId -> Sem Value} (hf : ∀ t, Lk P F Z (f t)) (x : Array Value) : Lk P F Z (ReflectliteType.method f x) := by
 obtain ⟨l⟩ := x
 rcases l with _ | ⟨a, _ | ⟨b, l⟩⟩
 ·exact lk_stuck _
 ·exact lk_bind (lk_ofRtype a) (fun _ => hf _)
 ·exact lk_stuck _
theorem lk_rRelation {s : String} {f : TypeId -> TypeId -> Sem Bool} (hf : ∀ t u, Lk P F Z (f t u)) (x : Array Value) : Lk P F Z (ReflectliteType.relation s f x) := by
 obtain ⟨l⟩ := x
 rcases l with _ | ⟨a, _ | ⟨b, _ | ⟨c, l⟩⟩⟩
 ·exact lk_stuck _
 ·exact lk_stuck _
 ·cases b with
  | nilIface => exact lk_panicString _
  | iface t u => exact lk_bind (lk_ofRtype u) (fun _ => lk_bind (lk_ofRtype a) (fun _ => lk_bind (hf _ _) (fun _ => lk_pure _)))
  | _ => exact lk_stuck _
 ·exact lk_stuck _
theorem lk_rAbi {f : TypeId -> Sem Value} (hf : ∀ t, Lk P F Z (f t)) (x : Array Value) : Lk P F Z (ReflectliteType.abiMethod f x) := by
 obtain ⟨l⟩ := x
 rcases l with _ | ⟨a, _ | ⟨b, l⟩⟩
 ·exact lk_stuck _
 ·exact lk_bind (lk_ofHandle a) (fun _ => lk_bind (lk_noPack _ _) (fun _ => hf _))
 ·exact lk_stuck _
theorem lk_vMethod {z : Sem Value} {f : TypeId -> Addr -> Nat -> Nat -> Sem Value} (hz : Lk P F Z z) (hf : ∀ t a n m, Lk P F Z (f t a n m)) (x : Array Value) : Lk P F Z (ReflectliteValue.method z f x) := by
 obtain ⟨l⟩ := x
 rcases l with _ | ⟨a, _ | ⟨b, l⟩⟩
 ·exact lk_stuck _
 ·refine lk_bind (lk_parts a) (fun p => ?_)
  cases p with
  | none => exact hz
  | some p => exact hf _ _ _ _
 ·exact lk_stuck _
theorem lk_vMethodAny {z : Sem Value} {f : TypeId -> Addr -> Nat -> Nat -> Sem Value} (hz : Lk P F Z z) (hf : ∀ t a n m, Lk P F Z (f t a n m)) (x : Array Value) : Lk P F Z (ReflectliteValue.methodAny z f x) := by
 obtain ⟨l⟩ := x
 rcases l with _ | ⟨a, _ | ⟨b, l⟩⟩
 ·exact lk_stuck _
 ·refine lk_bind (lk_partsAny a) (fun p => ?_)
  cases p with
  | none => exact hz
  | some p => exact hf _ _ _ _
 ·exact lk_stuck _
theorem lk_rComparable (t : TypeId) : Lk P F Z (do Rtype.noPackHeld "Comparable" t; pure (.bool (<- typeInfo t).comparable) : Sem Value) :=
 lk_bind (lk_noPackHeld _ _) (fun _ => lk_bind (lk_typeInfo _) (fun _ => lk_pure _))
theorem lk_rKind (t : TypeId) : Lk P F Z (do pure (.int .u8 (<- Rtype.kind t)) : Sem Value) := lk_bind (lk_kind _) (fun _ => lk_pure _)
end Go.Lift
namespace Go.Mark
open Go.Lift Go.Proofs
def shut (r : Array ResultVar) : Func := { (default : Func) with name := "shut", origin := "shut", results := r, body := none }
noncomputable def keepF (f : Func) : Bool := f.name != "runtime.NumGoroutine" && (match f.body with | some b => okCode Tryz.prog b | none => false)
def exts : List Nat := [132, 142, 257, 258, 259, 287, 288, 289, 362, 381, 382, 383, 384]
noncomputable def FQ : Array Func := Tryz.prog.funcs.mapIdx fun i f => if exts.contains i || keepF f then f else shut f.results
end Go.Mark
namespace Go.Proofs
open Go.Lift Go.Mark
noncomputable def TryQ.prog : Program := strip Tryz.prog FQ
theorem TryQ.prog_eq : TryQ.prog = strip Tryz.prog FQ := rfl
end Go.Proofs
namespace Go.Mark
open Go.Lift Go.Proofs
def veil (D : Nat -> Prop) : Veil := ⟨D, fun c => okCode Tryz.prog c = true⟩
theorem qf : TryQ.prog.funcs = FQ := by
 rw [TryQ.prog_eq]
theorem fq_get {n : Nat} {f : Func} (h : Tryz.prog.funcs[n]? = some f) : FQ[n]? = some (if exts.contains n || keepF f then f else shut f.results) := by
 simp only [FQ, Array.getElem?_mapIdx, h, Option.map_some]
theorem qfunc {n : Nat} {f : Func} (h : Tryz.prog.funcs[n]? = some f) (hk : keepF f = true) : TryQ.prog.funcs[n]? = some f := by
 rw [qf, fq_get h, hk]
 simp
theorem qext {n : Nat} {f : Func} (h : Tryz.prog.funcs[n]? = some f) (hk : exts.contains n = true) : TryQ.prog.funcs[n]? = some f := by
 rw [qf, fq_get h, hk]
 simp
theorem shut_find (r : Array ResultVar) : Extern.find (shut r) = none /\ Extern.findNext (shut r) = none := by
 constructor <;> kernel_rfl
theorem doomed_lk {α : Type} {P : Program} {F : Array Func} {Z : Veil} {s : Sem α} (h : Doomed (strip P F) s) : Lk P F Z s := ⟨fun _ v _ _ _ _ _ _ => .inl (h v)⟩
theorem shut_doomed {Q : Program} {f : Nat} {args : Array Value} {r : Array ResultVar} (h' : Q.funcs[f]? = some (shut r)) : Doomed Q (callFunc f args) := by
 intro v
 obtain ⟨h1, h2⟩ := shut_find r
 have n1 : ((shut r).name == "runtime.NumGoroutine") = false := rfl
 have n2 : (shut r).body.isNone = true := rfl
 have n3 : ((shut r).name.endsWith ".init" && !(shut r).name.startsWith "(" && !(shut r).name.startsWith "gosem.") = false := by kernel_rfl
 have e : (callFunc f args).run Q v = .halt (.unsupported (.extern "shut")) v := by
  unfold callFunc
  simp only [Sem.run_bind, run_program, Result.andThen_ok, h', n1, n2, h1, h2, n3]
  simp
  rfl
 rw [e]
 exact trivial
end Go.Mark
namespace Go.Mark
open Go.Lift Go.Proofs
theorem on_refl {Z : Veil} {w v : World} (h : Rel Z w v) : On Z w v w v := ⟨h, rfl, rfl, Nat.le_refl _, Nat.le_refl _, by omega, Offs.refl w v⟩
theorem call_body {P : Program} {f : Nat} {fn : Func} {b : Code} {args : Array Value} (h : P.funcs[f]? = some fn) (hn : (fn.name == "runtime.NumGoroutine") = false) (hb : fn.body = some b) (w : World) :
  (callFunc f args).run P w = .ok (.enter f args) w /\ ∀ es, (callFunc f args).events P w es = es := by
 have hn' : ¬ fn.name = "runtime.NumGoroutine" := by simpa using hn
 have e : ∀ es, (callFunc f args).runT P w es = (.ok (.enter f args) w, es) := fun es => by
  unfold callFunc
  simp [Sem.runT_eq, h, hn', hb]
 constructor
 ·unfold callFunc
  simp [h, hn', hb]
 ·intro es
  rw [Sem.events, e]
theorem lk_body {P : Program} {F : Array Func} {Z : Veil} {f : Nat} {fn : Func} {b : Code} {args : Array Value} (hP : P.funcs[f]? = some fn) (hF : (strip P F).funcs[f]? = some fn) (hn : (fn.name == "runtime.NumGoroutine") = false) (hb : fn.body = some b) : Lk P F Z (callFunc f args) :=
 ⟨fun w v es B hr hc _ _ => by
  obtain ⟨h1, h2⟩ := call_body (args := args) hP hn hb w
  obtain ⟨h3, _⟩ := call_body (args := args) hF hn hb v
  rw [h1, h3, h2]
  exact .inr ⟨⟨rfl, on_refl hr⟩, hc⟩⟩
theorem lk_three (n : String) {P : Program} {F : Array Func} {Z : Veil} (args : Array Value) : Lk P F Z (Extern.MathBitsCarry.three n args) := by
 obtain ⟨l⟩ := args
 rcases l with _ | ⟨x, _ | ⟨y, _ | ⟨c, _ | ⟨d, l⟩⟩⟩⟩
 ·exact lk_stuck _
 ·exact lk_stuck _
 ·exact lk_stuck _
 ·refine lk_bind (lk_asInt _) fun c => ?_
  dsimp only
  split
  ·exact lk_bind (lk_unsupported _) fun _ => lk_bind (lk_asInt _) fun _ => lk_bind (lk_asInt _) fun _ => lk_pure _
  ·exact lk_bind (lk_asInt _) fun _ => lk_bind (lk_asInt _) fun _ => lk_pure _
 ·exact lk_stuck _
noncomputable def add64E : Array Value -> Sem Value := fun args => do
  let (x, y, c) <- Extern.MathBitsCarry.three "Add64" args
  pure (Extern.MathBitsCarry.pair ((x + y + c) % Extern.MathBitsCarry.m64) ((x + y + c) / Extern.MathBitsCarry.m64))
noncomputable def sub64E : Array Value -> Sem Value := fun args => do
  let (x, y, b) <- Extern.MathBitsCarry.three "Sub64" args
  pure (Extern.MathBitsCarry.pair ((x + Extern.MathBitsCarry.m64 - y - b) % Extern.MathBitsCarry.m64) (if x < y + b then 1 else 0))
section
open Go.Extern
theorem lk_add64 {P : Program} {F : Array Func} {Z : Veil} (args : Array Value) : Lk P F Z (add64E args) := lk_bind (lk_three _ _) fun _ => lk_pure _
theorem lk_sub64 {P : Program} {F : Array Func} {Z : Veil} (args : Array Value) : Lk P F Z (sub64E args) := lk_bind (lk_three _ _) fun _ => lk_pure _
def ExtOk (fn : Func) : Prop := ∃ e : Array Value -> Sem Value, Extern.findNext fn = none /\ Extern.find fn = some e /\ (fn.name == "runtime.NumGoroutine") = false /\ fn.body = none /\ ∀ (P : Program) (F : Array Func) (Z : Veil) args, Lk P F Z (e args)
theorem ext132 : ExtOk Tryz.f132 := ⟨sub64E, by kernel_rfl, by kernel_rfl, by kernel_rfl, by kernel_rfl, fun _ _ _ _ => lk_sub64 _⟩
theorem ext142 : ExtOk Tryz.f142 := ⟨add64E, by kernel_rfl, by kernel_rfl, by kernel_rfl, by kernel_rfl, fun _ _ _ _ => lk_add64 _⟩
theorem ext257 : ExtOk Tryz.f257 := ⟨(fun args => ReflectliteValue.unpack (args.getD 0 (.tuple #[]))), by kernel_rfl, by kernel_rfl, by kernel_rfl, by kernel_rfl, fun _ _ _ _ => lk_rUnpack _⟩
theorem ext258 : ExtOk Tryz.f258 := ⟨(ReflectliteValue.methodAny (ReflectliteValue.valueError "reflectlite.Value.Type" 0) fun t _ _ _ => ReflectliteType.toType t), by kernel_rfl, by kernel_rfl, by kernel_rfl, by kernel_rfl, fun _ _ _ _ => lk_vMethodAny (lk_valueError _ _) (fun _ _ _ _ => lk_toType _) _⟩
theorem ext259 : ExtOk Tryz.f259 := ⟨(ReflectliteValue.method (ReflectliteValue.valueError "reflectlite.Value.IsNil" 0) ReflectliteValue.isNil), by kernel_rfl, by kernel_rfl, by kernel_rfl, by kernel_rfl, fun _ _ _ _ => lk_vMethod (lk_valueError _ _) lk_vIsNil _⟩
theorem ext287 : ExtOk Tryz.f287 := ⟨ReflectliteType.typeOf, by kernel_rfl, by kernel_rfl, by kernel_rfl, by kernel_rfl, fun _ _ _ _ => lk_rTypeOf _⟩
theorem ext288 : ExtOk Tryz.f288 := ⟨(ReflectliteValue.method (ReflectliteValue.valueError "reflectlite.Value.Elem" 0) ReflectliteValue.elem), by kernel_rfl, by kernel_rfl, by kernel_rfl, by kernel_rfl, fun _ _ _ _ => lk_vMethod (lk_valueError _ _) lk_vElem _⟩
theorem ext289 : ExtOk Tryz.f289 := ⟨ReflectliteValue.set, by kernel_rfl, by kernel_rfl, by kernel_rfl, by kernel_rfl, fun _ _ _ _ => lk_vSet _⟩
theorem ext362 : ExtOk Tryz.f362 := ⟨(ReflectliteType.abiMethod fun t => do pure (.int .u8 (<- Rtype.kind t))), by kernel_rfl, by kernel_rfl, by kernel_rfl, by kernel_rfl, fun _ _ _ _ => lk_rAbi lk_rKind _⟩
theorem ext381 : ExtOk Tryz.f381 := ⟨(ReflectliteType.relation "AssignableTo" ReflectliteType.assignableTo), by kernel_rfl, by kernel_rfl, by kernel_rfl, by kernel_rfl, fun _ _ _ _ => lk_rRelation lk_rAssign _⟩
theorem ext382 : ExtOk Tryz.f382 := ⟨(ReflectliteType.method fun t => do Rtype.noPackHeld "Comparable" t; pure (.bool (<- typeInfo t).comparable)), by kernel_rfl, by kernel_rfl, by kernel_rfl, by kernel_rfl, fun _ _ _ _ => lk_rMethod lk_rComparable _⟩
theorem ext383 : ExtOk Tryz.f383 := ⟨(ReflectliteType.method ReflectliteType.elem), by kernel_rfl, by kernel_rfl, by kernel_rfl, by kernel_rfl, fun _ _ _ _ => lk_rMethod lk_rElem _⟩
theorem ext384 : ExtOk Tryz.f384 := ⟨(ReflectliteType.relation "Implements" ReflectliteType.implements_), by kernel_rfl, by kernel_rfl, by kernel_rfl, by kernel_rfl, fun _ _ _ _ => lk_rRelation lk_rImpl _⟩
end
theorem ext_all {n : Nat} {fn : Func} (hn : exts.contains n = true) (h : Tryz.prog.funcs[n]? = some fn) : ExtOk fn := by
 have hm : n ∈ exts := by simpa using hn
 simp only [exts, List.mem_cons, List.not_mem_nil, or_false] at hm
 rcases hm with rfl | rfl | rfl | rfl | rfl | rfl | rfl | rfl | rfl | rfl | rfl | rfl | rfl
 ·rw [Tryz.func132] at h; cases h; exact ext132
 ·rw [Tryz.func142] at h; cases h; exact ext142
 ·rw [Tryz.func257] at h; cases h; exact ext257
 ·rw [Tryz.func258] at h; cases h; exact ext258
 ·rw [Tryz.func259] at h; cases h; exact ext259
 ·rw [Tryz.func287] at h; cases h; exact ext287
 ·rw [Tryz.func288] at h; cases h; exact ext288
 ·rw [Tryz.func289] at h; cases h; exact ext289
 ·rw [Tryz.func362] at h; cases h; exact ext362
 ·rw [Tryz.func381] at h; cases h; exact ext381
 ·rw [Tryz.func382] at h; cases h; exact ext382
 ·rw [Tryz.func383] at h; cases h; exact ext383
 ·rw [Tryz.func384] at h; cases h; exact ext384
theorem lk_extern {P : Program} {F : Array Func} {Z : Veil} {f : Nat} {fn : Func} {args : Array Value} (hP : P.funcs[f]? = some fn) (hF : (strip P F).funcs[f]? = some fn) (h : ExtOk fn) : Lk P F Z (callFunc f args) := by
 obtain ⟨e, h1, h2, h3, h4, h5⟩ := h
 unfold callFunc
 refine lk_program ?_ ?_
 ·simp only [hP, hF]
 ·simp only [hF, h3, h4, h1, h2]
  simp only [Option.isNone_none, if_true, Bool.false_eq_true, if_false]
  exact lk_bind ⟨lock_mark (.inl ⟨f, rfl⟩) (lock_pure ())⟩ fun _ => lk_bind (h5 _ _ _ _) fun _ => lk_pure _
theorem okF {fn : Func} (h : keepF fn = true) : (fn.name == "runtime.NumGoroutine") = false /\ ∃ b, fn.body = some b /\ okCode Tryz.prog b = true := by
 unfold keepF at h
 rw [Bool.and_eq_true] at h
 refine ⟨by simpa using h.1, ?_⟩
 cases hb : fn.body with
 | none => rw [hb] at h; exact absurd h.2 (by simp)
 | some b => rw [hb] at h; exact ⟨b, rfl, h.2⟩
theorem cases_f {P : Program} {F : Array Func} (f : Nat) (hg : ∀ (n : Nat) (fn : Func), P.funcs[n]? = some fn -> F[n]? = some (if exts.contains n || keepF fn then fn else shut fn.results)) (hs : P.funcs.size = F.size) (hE : ∀ (n : Nat) (fn : Func), exts.contains n = true -> P.funcs[n]? = some fn -> ExtOk fn) :
   (P.funcs[f]? = none /\ F[f]? = none) \/ (∃ fn, P.funcs[f]? = some fn /\ F[f]? = some (shut fn.results)) \/ (∃ fn, ExtOk fn /\ P.funcs[f]? = some fn /\ F[f]? = some fn) \/ ∃ fn, keepF fn = true /\ P.funcs[f]? = some fn /\ F[f]? = some fn := by
 cases h : P.funcs[f]? with
 | none =>
  left
  rw [Array.getElem?_eq_none_iff] at h
  exact ⟨rfl, Array.getElem?_eq_none (by omega)⟩
 | some fn =>
  right
  have := hg f fn h
  by_cases e : exts.contains f = true
  ·rw [e] at this
   exact .inr (.inl ⟨fn, hE f fn e h, rfl, by simpa using this⟩)
  ·by_cases k : keepF fn = true
   ·exact .inr (.inr ⟨fn, k, rfl, by simpa [k] using this⟩)
   ·have e' : exts.contains f = false := by simpa using e
    rw [e'] at this
    exact .inl ⟨fn, rfl, by simpa [k] using this⟩
theorem fair_of {P : Program} {F : Array Func} {Z : Veil} (hok : ∀ b, okCode Tryz.prog b = okCode P b) (hZ : ∀ c, Z.ok c ↔ okCode P c = true) (hg : ∀ (n : Nat) (fn : Func), P.funcs[n]? = some fn -> F[n]? = some (if exts.contains n || keepF fn then fn else shut fn.results)) (hs : P.funcs.size = F.size) (hE : ∀ (n : Nat) (fn : Func), exts.contains n = true -> P.funcs[n]? = some fn -> ExtOk fn) : Go.Lift.Fair P F Z := by
 refine ⟨fun f args => ?_, fun f args => ?_, hZ, fun f => ?_⟩
 ·rcases cases_f f hg hs hE with ⟨_, h2⟩ | ⟨fn, _, h2⟩ | ⟨fn, x, h1, h2⟩ | ⟨fn, k, h1, h2⟩
  ·refine doomed_lk fun v => ?_
   have e : (callFunc f args).run (strip P F) v = .halt (.stuck "call: no such function") v := by
    unfold callFunc
    have h2' : (strip P F).funcs[f]? = none := h2
    simp [h2']
   rw [e]
   exact trivial
  ·exact doomed_lk (shut_doomed h2)
  ·exact lk_extern h1 h2 x
  ·obtain ⟨k1, b, k2, _⟩ := okF k
   exact lk_body h1 h2 k1 k2
 ·intro v a v' e
  rcases cases_f f hg hs hE with ⟨_, h2⟩ | ⟨fn, _, h2⟩ | ⟨fn, x, h1, h2⟩ | ⟨fn, k, h1, h2⟩
  ·have e' : (callFunc f args).run (strip P F) v = .halt (.stuck "call: no such function") v := by
    unfold callFunc
    have h2' : (strip P F).funcs[f]? = none := h2
    simp [h2']
   rw [e'] at e
   cases e
  ·have := shut_doomed (args := args) (Q := strip P F) h2 v
   rw [e] at this
   exact this.elim
  ·obtain ⟨x, k1, k2, k3, k4, _⟩ := x
   rw [run_callFunc_extern (P := strip P F) h2 k3 (by rw [k4]; rfl) k1 k2] at e
   cases hx : (x args).run (strip P F) v with
   | ok y v₁ => rw [hx] at e; cases e; exact trivial
   | halt y v₁ => rw [hx] at e; cases e
  ·obtain ⟨k1, b, k2, k3⟩ := okF k
   rw [(call_body (P := strip P F) h2 k1 k2 v).1] at e
   cases e
   refine ⟨h1.trans h2.symm, fun fn' b' h3 h4 => ?_⟩
   rw [h2] at h3
   cases h3
   rw [k2] at h4
   cases h4
   rw [<- hok]
   exact k3
 ·rcases cases_f f hg hs hE with ⟨h1, h2⟩ | ⟨fn, h1, h2⟩ | ⟨fn, x, h1, h2⟩ | ⟨fn, k, h1, h2⟩ <;> rw [h1, h2] <;> rfl
theorem fair (D : Nat -> Prop) : Go.Lift.Fair Tryz.prog FQ (veil D) :=
 fair_of (fun _ => rfl) (fun _ => Iff.rfl) (fun _ _ h => fq_get h) (by unfold FQ; rw [Array.size_mapIdx]) (fun _ _ => ext_all)
end Go.Mark
namespace Go.Mark
open Go.Lift Go.Proofs
section
variable {P : Program} {F : Array Func} {w : World} {t : TypeId}
theorem s_underlying : (strip P F).underlying t = P.underlying t := rfl
theorem s_run_underlying : (underlying t).run (strip P F) w = (underlying t).run P w := by
 have e : (strip P F).underlying t = P.underlying t := rfl
 unfold underlying
 cases h : P.underlying t with
 | none => rw [h] at e; simp [h, e]
 | some d => rw [h] at e; simp [h, e]
theorem s_run_typeInfo : (typeInfo t).run (strip P F) w = (typeInfo t).run P w := by
 have e : (strip P F).info? t = P.info? t := rfl
 unfold typeInfo
 cases h : P.info? t with
 | none => rw [h] at e; simp [h]
 | some d => rw [h] at e; simp [h]
theorem s_run_sizeOf : (Go.sizeOf t).run (strip P F) w = (Go.sizeOf t).run P w := by
 unfold Go.sizeOf
 rw [Sem.run_bind, Sem.run_bind, s_run_typeInfo]
 cases (typeInfo t).run P w <;> rfl
theorem s_run_isAgg : (isAgg t).run (strip P F) w = (isAgg t).run P w := by
 have e := s_run_underlying (P := P) (F := F) (w := w) (t := t)
 unfold isAgg
 simp only [Sem.run_bind]
 generalize (underlying t).run (strip P F) w = x at e
 subst e
 cases (underlying t).run P w with
 | ok d v => simp only [Result.andThen_ok]; cases d <;> simp only [Sem.run_pure]
 | halt h v => simp only [Result.andThen]
theorem s_run_zeroValue : (zeroValue t).run (strip P F) w = (zeroValue t).run P w := by
 have e := s_run_typeInfo (P := P) (F := F) (w := w) (t := t)
 unfold zeroValue
 simp only [Sem.run_bind]
 generalize (typeInfo t).run (strip P F) w = x at e
 subst e
 cases (typeInfo t).run P w with
 | ok d v => simp only [Result.andThen_ok]; cases d.zero <;> simp [unsupported]
 | halt h v => simp only [Result.andThen]
theorem s_eqGuardType : ∀ (d : Nat) (t : TypeId), (strip P F).eqGuardType d t = P.eqGuardType d t
 | 0, _ => rfl
 | d + 1, t => by
  unfold Program.eqGuardType
  rw [s_underlying]
  split
  ·rfl
  ·simp only [s_eqGuardType d]
  ·exact s_eqGuardType d _
  ·rfl
theorem s_depth : (strip P F).depth = P.depth := rfl
end
@[simp, go_sem] theorem q_underlying (t : TypeId) : TryQ.prog.underlying t = Tryz.prog.underlying t := by
 rw [TryQ.prog_eq]
 exact s_underlying (P := Tryz.prog) (F := FQ)
@[simp, go_sem] theorem q_info (t : TypeId) : TryQ.prog.info? t = Tryz.prog.info? t := by
 rw [TryQ.prog_eq]
@[simp, go_sem] theorem q_types : TryQ.prog.types = Tryz.prog.types := by
 rw [TryQ.prog_eq]
@[simp, go_sem] theorem q_run_underlying (t : TypeId) (w : World) : (underlying t).run TryQ.prog w = (underlying t).run Tryz.prog w := by
 rw [TryQ.prog_eq]
 exact s_run_underlying (P := Tryz.prog) (F := FQ)
@[simp, go_sem] theorem q_run_typeInfo (t : TypeId) (w : World) : (typeInfo t).run TryQ.prog w = (typeInfo t).run Tryz.prog w := by
 rw [TryQ.prog_eq]
 exact s_run_typeInfo (P := Tryz.prog) (F := FQ)
@[simp, go_sem] theorem q_run_sizeOf (t : TypeId) (w : World) : (Go.sizeOf t).run TryQ.prog w = (Go.sizeOf t).run Tryz.prog w := by
 rw [TryQ.prog_eq]
 exact s_run_sizeOf (P := Tryz.prog) (F := FQ)
@[simp, go_sem] theorem q_run_isAgg (t : TypeId) (w : World) : (isAgg t).run TryQ.prog w = (isAgg t).run Tryz.prog w := by
 rw [TryQ.prog_eq]
 exact s_run_isAgg (P := Tryz.prog) (F := FQ)
@[simp, go_sem] theorem q_run_zeroValue (t : TypeId) (w : World) : (zeroValue t).run TryQ.prog w = (zeroValue t).run Tryz.prog w := by
 rw [TryQ.prog_eq]
 exact s_run_zeroValue (P := Tryz.prog) (F := FQ)
@[simp, go_sem] theorem q_eqGuardType (d : Nat) (t : TypeId) : TryQ.prog.eqGuardType d t = Tryz.prog.eqGuardType d t := s_eqGuardType (P := Tryz.prog) (F := FQ) d t
@[simp, go_sem] theorem q_depth : TryQ.prog.depth = Tryz.prog.depth := s_depth (P := Tryz.prog) (F := FQ)
@[simp, go_sem] theorem q_rt : TryQ.prog.rt = Tryz.prog.rt := by rw [TryQ.prog_eq]
@[simp, go_sem] theorem q_globals : TryQ.prog.globals = Tryz.prog.globals := by rw [TryQ.prog_eq]
end Go.Mark
