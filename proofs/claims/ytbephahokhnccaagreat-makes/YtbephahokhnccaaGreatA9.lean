/-
  The operations of the model, one by one, run alike in the two worlds: the binary operators, append, strings out of bytes.
-/
import Derived.Test.YtbephahokhnccaaGreatXA6toA8
namespace Go.Lift
variable {α β : Type} {P : Program} {F : Array Func} {Z : Veil}
theorem lk_viewIf {r : Nat} {A B : Sem α} (hA : Lk P F Z A) (hB : Lk P F Z B) : Lk P F Z (viewAt r >>= fun x => if x.isSome = true then A else B) :=
  lk_viewSome (f := fun b => if b = true then A else B) (fun b => by cases b <;> assumption)
theorem lk_unsafeAdd (t : Array TypeId) (u : TypeId) (p : Option Addr) (y : Value) : Lk P F Z (Builtin.unsafeAdd_ t u #[.pointer p, y]) := by
  unfold Builtin.unsafeAdd_
  dsimp only
  refine lk_bind (lk_asInt _) (fun n => ?_)
  split
  · split
    · exact lk_viewIf (lk_bind (lk_unsupported _) (fun _ => lk_pure _)) (lk_pure _)
    · exact lk_unsupported _
  · rename_i h0
    split
    · exact lk_unsupported _
    · rename_i hn
      split
      · refine lk_shapeD (fun e v => ?_) (fun s => ?_)
        · dsimp only
          simp only [Sem.run_bind, program, Sem.run, Result.andThen_ok, Nat.zero_div, cellAtBytes_none _ _ _ n (by omega)]
          trivial
        · split
          · refine lk_program ?_ ?_
            · simp only [cellAtBytes_strip]
              rfl
            · split
              · exact lk_pure _
              · exact lk_unsupported _
          · exact lk_unsupported _
      · exact lk_unsupported _
theorem lk_unsafeAdd' (t : Array TypeId) (u : TypeId) (x y : Value) : Lk P F Z (Builtin.unsafeAdd_ t u #[x, y]) := by
  cases x <;> first | exact lk_unsafeAdd _ _ _ _ | exact lk_stuck "unsafe.Add: a pointer and an integer expected"
theorem lk_asNumber (a : Addr) (b : Bool) : Lk P F Z (asNumber a b) := by
  unfold asNumber
  try dsimp only
  repeat' first
    | assumption
    | (with_reducible exact lk_newNumber _ _)
    | (with_reducible exact lk_pure' _)
    | (with_reducible exact lk_pure _)
    | (with_reducible refine lk_bind ?_ (fun _ => ?_))
    | split
    | dsimp only
    | intro _
theorem lk_movedNumber (t : TypeId) (x y : Value) : Lk P F Z (movedNumber t x y) := by
  unfold movedNumber
  try dsimp only
  repeat' first
    | assumption
    | (with_reducible exact lk_asNumber _ _)
    | (with_reducible exact lk_unsafeAdd _ _ _ _)
    | (with_reducible exact lk_unsafeAdd' _ _ _ _)
    | (with_reducible exact lk_behindNumber _)
    | (with_reducible exact lk_underlying _)
    | (with_reducible exact lk_pure' _)
    | (with_reducible exact lk_uunsafePointer _)
    | (with_reducible exact lk_pure _)
    | (with_reducible refine lk_bind ?_ (fun _ => ?_))
    | split
    | dsimp only
    | intro _
theorem lk_movedPointer (t : TypeId) (x y : Value) : Lk P F Z (movedPointer t x y) := by
  unfold movedPointer
  try dsimp only
  repeat' first
    | assumption
    | (with_reducible exact lk_unsafeAdd _ _ _ _)
    | (with_reducible exact lk_unsafeAdd' _ _ _ _)
    | (with_reducible exact lk_numberAt _)
    | (with_reducible exact lk_uaddressObserved)
    | (with_reducible refine lk_bind ?_ (fun _ => ?_))
    | split
    | dsimp only
    | intro _
theorem lk_twoPlaces (a b : Addr) : Lk P F Z (Op.twoPlaces a b) := by
  unfold Op.twoPlaces
  try dsimp only
  repeat' first
    | assumption
    | (with_reducible exact lk_byteOf _)
    | (with_reducible exact lk_pure' _)
    | (with_reducible exact lk_uaddressObserved)
    | (with_reducible exact lk_pure _)
    | ((with_reducible refine lk_program ?_ ?_); · exact rfl)
    | (with_reducible refine lk_bind ?_ (fun _ => ?_))
    | split
    | dsimp only
    | intro _
theorem lk_addrSub (k : IntKind) (a b : Addr) : Lk P F Z (Op.addrSub k a b) := by
  unfold Op.addrSub
  try dsimp only
  repeat' first
    | assumption
    | (with_reducible exact lk_twoPlaces _ _)
    | (with_reducible exact lk_pure' _)
    | (with_reducible exact lk_pure _)
    | (with_reducible refine lk_bind ?_ (fun _ => ?_))
    | split
    | dsimp only
    | intro _
theorem lk_addrCmp (o : BinOp) (a b : Addr) : Lk P F Z (Op.addrCmp o a b) := by
  unfold Op.addrCmp
  try dsimp only
  repeat' first
    | assumption
    | (with_reducible exact lk_twoPlaces _ _)
    | (with_reducible exact lk_pure' _)
    | (with_reducible exact lk_uaddressObserved)
    | (with_reducible exact lk_pure _)
    | (with_reducible refine lk_bind ?_ (fun _ => ?_))
    | split
    | dsimp only
    | intro _
theorem lk_addrMod (k : IntKind) (a : Addr) (n : Int) : Lk P F Z (Op.addrMod k a n) := by
  unfold Op.addrMod
  try dsimp only
  repeat' first
    | assumption
    | (with_reducible exact lk_byteOf _)
    | (with_reducible exact lk_typeInfo _)
    | (with_reducible exact lk_pure' _)
    | (with_reducible exact lk_uaddressObserved)
    | (with_reducible exact lk_pure _)
    | (with_reducible refine lk_shape (fun _ _ _ => rfl) (fun _ => ?_))
    | (with_reducible refine lk_bind ?_ (fun _ => ?_))
    | split
    | dsimp only
    | intro _
theorem lk_floatToFloat (k : FloatKind) (n : Nat) (l : FloatKind) : Lk P F Z (Conv.floatToFloat k n l) := by
  unfold Conv.floatToFloat
  try dsimp only
  repeat' first
    | assumption
    | (with_reducible exact lk_pure' _)
    | (with_reducible exact lk_choose _)
    | (with_reducible exact lk_pure _)
    | (with_reducible refine lk_bind ?_ (fun _ => ?_))
    | split
    | dsimp only
    | intro _
theorem lk_arith (o : BinOp) (k : FloatKind) (x y : Nat) : Lk P F Z (Op.Complex.arith o k x y) := by
  unfold Op.Complex.arith
  try dsimp only
  repeat' first
    | assumption
    | (with_reducible exact lk_floatArith _ _ _ _)
    | (with_reducible exact lk_pure' _)
    | (with_reducible exact lk_stuck _)
    | (with_reducible exact lk_pure _)
    | (with_reducible refine lk_bind ?_ (fun _ => ?_))
    | split
    | dsimp only
    | intro _
theorem lk_cmp (o : BinOp) (k : FloatKind) (x y : Nat) : Lk P F Z (Op.Complex.cmp o k x y) := by
  unfold Op.Complex.cmp
  try dsimp only
  repeat' first
    | assumption
    | (with_reducible exact lk_floatCmp _ _ _ _)
    | (with_reducible exact lk_asBool _)
    | (with_reducible refine lk_bind ?_ (fun _ => ?_))
    | split
    | dsimp only
    | intro _
theorem lk_conv (k : FloatKind) (x : Nat) (l : FloatKind) : Lk P F Z (Op.Complex.conv k x l) := by
  unfold Op.Complex.conv
  try dsimp only
  repeat' first
    | assumption
    | (with_reducible exact lk_floatToFloat _ _ _)
    | (with_reducible exact lk_pure' _)
    | (with_reducible exact lk_stuck _)
    | (with_reducible exact lk_pure _)
    | (with_reducible refine lk_bind ?_ (fun _ => ?_))
    | split
    | dsimp only
    | intro _
theorem lk_cadd (x y : Nat) : Lk P F Z (Op.Complex.add x y) := lk_arith _ _ _ _
theorem lk_csub (x y : Nat) : Lk P F Z (Op.Complex.sub x y) := lk_arith _ _ _ _
theorem lk_cmul (x y : Nat) : Lk P F Z (Op.Complex.mul x y) := lk_arith _ _ _ _
theorem lk_cquo (x y : Nat) : Lk P F Z (Op.Complex.quo x y) := lk_arith _ _ _ _
theorem lk_product (a b c d : Nat) : Lk P F Z (Op.Complex.product a b c d) := by
  unfold Op.Complex.product
  try dsimp only
  repeat' first
    | assumption
    | (with_reducible exact lk_cmul _ _)
    | (with_reducible exact lk_csub _ _)
    | (with_reducible exact lk_cadd _ _)
    | (with_reducible exact lk_pure' _)
    | (with_reducible exact lk_pure _)
    | (with_reducible refine lk_bind ?_ (fun _ => ?_))
    | split
    | dsimp only
    | intro _
theorem lk_corrected (s a b c d : Nat) : Lk P F Z (Op.Complex.corrected s a b c d) := by
  unfold Op.Complex.corrected
  try dsimp only
  repeat' first
    | assumption
    | (with_reducible exact lk_cmul _ _)
    | (with_reducible exact lk_csub _ _)
    | (with_reducible exact lk_cadd _ _)
    | (with_reducible exact lk_pure' _)
    | (with_reducible exact lk_pure _)
    | (with_reducible refine lk_bind ?_ (fun _ => ?_))
    | split
    | dsimp only
    | intro _
theorem lk_quotient (a b c d : Nat) : Lk P F Z (Op.Complex.quotient a b c d) := by
  unfold Op.Complex.quotient
  try dsimp only
  repeat' first
    | assumption
    | (with_reducible exact lk_corrected _ _ _ _ _)
    | (with_reducible exact lk_cquo _ _)
    | (with_reducible exact lk_cmul _ _)
    | (with_reducible exact lk_csub _ _)
    | (with_reducible exact lk_cadd _ _)
    | (with_reducible exact lk_cmp _ _ _ _)
    | (with_reducible exact lk_pure' _)
    | (with_reducible exact lk_pure _)
    | (with_reducible refine lk_bind ?_ (fun _ => ?_))
    | split
    | dsimp only
    | intro _
theorem lk_complexOp (o : BinOp) (k : FloatKind) (a b c d : Nat) : Lk P F Z (Op.complexOp o k a b c d) := by
  unfold Op.complexOp
  try dsimp only
  repeat' first
    | assumption
    | (with_reducible exact lk_quotient _ _ _ _)
    | (with_reducible exact lk_product _ _ _ _)
    | (with_reducible exact lk_conv _ _ _)
    | (with_reducible exact lk_cmp _ _ _ _)
    | (with_reducible exact lk_arith _ _ _ _)
    | (with_reducible exact lk_pure' _)
    | (with_reducible exact lk_stuck _)
    | (with_reducible exact lk_pure _)
    | (with_reducible refine lk_bind ?_ (fun _ => ?_))
    | split
    | dsimp only
    | intro _
theorem lk_binOp (o : BinOp) (t : TypeId) (x y : Value) : Lk P F Z (binOp o t x y) := by
  unfold binOp
  try dsimp only
  repeat' first
    | assumption
    | (with_reducible exact lk_complexOp _ _ _ _ _ _)
    | (with_reducible exact lk_addrMod _ _ _)
    | (with_reducible exact lk_addrCmp _ _ _)
    | (with_reducible exact lk_addrSub _ _ _)
    | (with_reducible exact lk_movedPointer _ _ _)
    | (with_reducible exact lk_movedNumber _ _ _)
    | (with_reducible exact lk_floatCmp _ _ _ _)
    | (with_reducible exact lk_floatArith _ _ _ _)
    | (with_reducible exact lk_stringOp _ _ _)
    | (with_reducible exact lk_intCmp _ _ _)
    | (with_reducible exact lk_shift _ _ _ _ _)
    | (with_reducible exact lk_intBits _ _ _ _)
    | (with_reducible exact lk_intDiv _ _ _ _)
    | (with_reducible exact lk_intArith _ _ _ _)
    | (with_reducible exact lk_equal _ _ _)
    | (with_reducible exact lk_behindNumber _)
    | (with_reducible exact lk_underlying _)
    | (with_reducible exact lk_pure' _)
    | (with_reducible exact lk_uaddressObserved)
    | (with_reducible exact lk_stuck _)
    | (with_reducible exact lk_pure _)
    | (with_reducible refine lk_bind ?_ (fun _ => ?_))
    | split
    | dsimp only
    | intro _
end Go.Lift
