import Derived.Test.YtbephahokhnccaaGreatDoorXA6toA8
namespace Go.Lift
variable {α β : Type} {P : Program} {F : Array Func} {Z : Veil}
theorem lk_viewIf {r : Nat} {A B : Sem α} (hA : Lk P F Z A) (hB : Lk P F Z B) : Lk P F Z (viewAt r >>= fun x => if x.isSome = true then A else B) :=
 lk_viewSome (f := fun b => if b = true then A else B) (fun b => by cases b <;> assumption)
theorem lk_unsafeAdd (t : Array TypeId) (u : TypeId) (p : Option Addr) (y : Value) : Lk P F Z (Builtin.unsafeAdd_ t u #[.pointer p, y]) := by
 unfold Builtin.unsafeAdd_
 dsimp only
 refine lk_bind (lk_asInt _) (fun n => ?_)
 split
 ·split
  ·exact lk_viewIf (lk_bind (lk_unsupported _) (fun _ => lk_pure _)) (lk_pure _)
  ·exact lk_unsupported _
 ·rename_i h0
  split
  ·exact lk_unsupported _
  ·rename_i hn
   split
   ·refine lk_shapeD (fun e v => ?_) (fun s => ?_)
    ·dsimp only
     simp only [Sem.run_bind, program, Sem.run, Result.andThen_ok, Nat.zero_div, cellAtBytes_none _ _ _ n (by omega)]
     trivial
    ·split
     ·refine lk_program ?_ ?_
      ·simp only [cellAtBytes_strip]
       rfl
      ·split
       ·exact lk_pure _
       ·exact lk_unsupported _
     ·exact lk_unsupported _
   ·exact lk_unsupported _
theorem lk_unsafeAdd' (t : Array TypeId) (u : TypeId) (x y : Value) : Lk P F Z (Builtin.unsafeAdd_ t u #[x, y]) := by
 cases x <;> first | exact lk_unsafeAdd _ _ _ _ | exact lk_stuck _
theorem lk_asNumber (a : Addr) (b : Bool) : Lk P F Z (asNumber a b) := by
 unfold asNumber
 try dsimp only
 repeat' first
  | assumption
  | (with_reducible exact lk_newNumber _ _)
  | (with_reducible exact lk_pure _)
  | (with_reducible refine lk_bind ?_ (fun _ => ?_))
  | split
  | dsimp only
  | intro _
theorem lk_movedNumber (t : TypeId) (x y : Value) : Lk P F Z (movedNumber t x y) := by
 unfold movedNumber
 try dsimp only
 repeat' first
  | assumption
  | (with_reducible exact lk_asNumber _ _)
  | (with_reducible exact lk_unsafeAdd _ _ _ _)
  | (with_reducible exact lk_unsafeAdd' _ _ _ _)
  | (with_reducible exact lk_behindNumber _)
  | (with_reducible exact lk_underlying _)
  | (with_reducible exact lk_uunsafePointer _)
  | (with_reducible exact lk_pure _)
  | (with_reducible refine lk_bind ?_ (fun _ => ?_))
  | split
  | dsimp only
  | intro _
theorem lk_movedPointer (t : TypeId) (x y : Value) : Lk P F Z (movedPointer t x y) := by
 unfold movedPointer
 try dsimp only
 repeat' first
  | assumption
  | (with_reducible exact lk_unsafeAdd _ _ _ _)
  | (with_reducible exact lk_unsafeAdd' _ _ _ _)
  | (with_reducible exact lk_numberAt _)
  | (with_reducible exact lk_uaddressObserved)
  | (with_reducible refine lk_bind ?_ (fun _ => ?_))
  | split
  | dsimp only
  | intro _
theorem lk_twoPlaces (a b : Addr) : Lk P F Z (Op.twoPlaces a b) := by
 unfold Op.twoPlaces
 try dsimp only
 repeat' first
  | assumption
  | (with_reducible exact lk_byteOf _)
  | (with_reducible exact lk_uaddressObserved)
  | (with_reducible exact lk_pure _)
  | ((with_reducible refine lk_program ?_ ?_); · exact rfl)
  | (with_reducible refine lk_bind ?_ (fun _ => ?_))
  | split
  | dsimp only
  | intro _
theorem lk_addrSub (k : IntKind) (a b : Addr) : Lk P F Z (Op.addrSub k a b) := by
 unfold Op.addrSub
 try dsimp only
 repeat' first
  | assumption
  | (with_reducible exact lk_twoPlaces _ _)
  | (with_reducible exact lk_pure _)
  | (with_reducible refine lk_bind ?_ (fun _ => ?_))
  | split
  | dsimp only
  | intro _
theorem lk_addrCmp (o : BinOp) (a b : Addr) : Lk P F Z (Op.addrCmp o a b) := by
 unfold Op.addrCmp
 try dsimp only
 repeat' first
  | assumption
  | (with_reducible exact lk_twoPlaces _ _)
  | (with_reducible exact lk_uaddressObserved)
  | (with_reducible exact lk_pure _)
  | (with_reducible refine lk_bind ?_ (fun _ => ?_))
  | split
  | dsimp only
  | intro _
theorem lk_addrMod (k : IntKind) (a : Addr) (n : Int) : Lk P F Z (Op.addrMod k a n) := by
 unfold Op.addrMod
 try dsimp only
 repeat' first
  | assumption
  | (with_reducible exact lk_byteOf _)
  | (with_reducible exact lk_typeInfo _)
  | (with_reducible exact lk_uaddressObserved)
  | (with_reducible exact lk_pure _)
  | (with_reducible refine lk_shape (fun _ _ _ => rfl) (fun _ => ?_))
  | (with_reducible refine lk_bind ?_ (fun _ => ?_))
  | split
  | dsimp only
  | intro _
theorem lk_floatToFloat (k : FloatKind) (n : Nat) (l : FloatKind) : Lk P F Z (Conv.floatToFloat k n l) := by
 unfold Conv.floatToFloat
 try dsimp only
 repeat' first
  | assumption
  | (with_reducible exact lk_choose _)
  | (with_reducible exact lk_pure _)
  | (with_reducible refine lk_bind ?_ (fun _ => ?_))
  | split
  | dsimp only
  | intro _
theorem lk_arith (o : BinOp) (k : FloatKind) (x y : Nat) : Lk P F Z (Op.Complex.arith o k x y) := by
 unfold Op.Complex.arith
 try dsimp only
 repeat' first
  | assumption
  | (with_reducible exact lk_floatArith _ _ _ _)
  | (with_reducible exact lk_stuck _)
  | (with_reducible exact lk_pure _)
  | (with_reducible refine lk_bind ?_ (fun _ => ?_))
  | split
  | dsimp only
  | intro _
theorem lk_cmp (o : BinOp) (k : FloatKind) (x y : Nat) : Lk P F Z (Op.Complex.cmp o k x y) := by
 unfold Op.Complex.cmp
 try dsimp only
 repeat' first
  | assumption
  | (with_reducible exact lk_floatCmp _ _ _ _)
  | (with_reducible exact lk_asBool _)
  | (with_reducible refine lk_bind ?_ (fun _ => ?_))
  | split
  | dsimp only
  | intro _
theorem lk_conv (k : FloatKind) (x : Nat) (l : FloatKind) : Lk P F Z (Op.Complex.conv k x l) := by
 unfold Op.Complex.conv
 try dsimp only
 repeat' first
  | assumption
  | (with_reducible exact lk_floatToFloat _ _ _)
  | (with_reducible exact lk_stuck _)
  | (with_reducible exact lk_pure _)
  | (with_reducible refine lk_bind ?_ (fun _ => ?_))
  | split
  | dsimp only
  | intro _
theorem lk_cadd (x y : Nat) : Lk P F Z (Op.Complex.add x y) := lk_arith _ _ _ _
theorem lk_csub (x y : Nat) : Lk P F Z (Op.Complex.sub x y) := lk_arith _ _ _ _
theorem lk_cmul (x y : Nat) : Lk P F Z (Op.Complex.mul x y) := lk_arith _ _ _ _
theorem lk_cquo (x y : Nat) : Lk P F Z (Op.Complex.quo x y) := lk_arith _ _ _ _
theorem lk_product (a b c d : Nat) : Lk P F Z (Op.Complex.product a b c d) := by
 unfold Op.Complex.product
 try dsimp only
 repeat' first
  | assumption
  | (with_reducible exact lk_cmul _ _)
  | (with_reducible exact lk_csub _ _)
  | (with_reducible exact lk_cadd _ _)
  | (with_reducible exact lk_pure _)
  | (with_reducible refine lk_bind ?_ (fun _ => ?_))
  | split
  | dsimp only
  | intro _
theorem lk_corrected (s a b c d : Nat) : Lk P F Z (Op.Complex.corrected s a b c d) := by
 unfold Op.Complex.corrected
 try dsimp only
 repeat' first
  | assumption
  | (with_reducible exact lk_cmul _ _)
  | (with_reducible exact lk_csub _ _)
  | (with_reducible exact lk_cadd _ _)
  | (with_reducible exact lk_pure _)
  | (with_reducible refine lk_bind ?_ (fun _ => ?_))
  | split
  | dsimp only
  | intro _
theorem lk_quotient (a b c d : Nat) : Lk P F Z (Op.Complex.quotient a b c d) := by
 unfold Op.Complex.quotient
 try dsimp only
 repeat' first
  | assumption
  | (with_reducible exact lk_corrected _ _ _ _ _)
  | (with_reducible exact lk_cquo _ _)
  | (with_reducible exact lk_cmul _ _)
  | (with_reducible exact lk_csub _ _)
  | (with_reducible exact lk_cadd _ _)
  | (with_reducible exact lk_cmp _ _ _ _)
  | (with_reducible exact lk_pure _)
  | (with_reducible refine lk_bind ?_ (fun _ => ?_))
  | split
  | dsimp only
  | intro _
theorem lk_complexOp (o : BinOp) (k : FloatKind) (a b c d : Nat) : Lk P F Z (Op.complexOp o k a b c d) := by
 unfold Op.complexOp
 try dsimp only
 repeat' first
  | assumption
  | (with_reducible exact lk_quotient _ _ _ _)
  | (with_reducible exact lk_product _ _ _ _)
  | (with_reducible exact lk_conv _ _ _)
  | (with_reducible exact lk_cmp _ _ _ _)
  | (with_reducible exact lk_arith _ _ _ _)
  | (with_reducible exact lk_stuck _)
  | (with_reducible exact lk_pure _)
  | (with_reducible refine lk_bind ?_ (fun _ => ?_))
  | split
  | dsimp only
  | intro _
theorem lk_binOp (o : BinOp) (t : TypeId) (x y : Value) : Lk P F Z (binOp o t x y) := by
 unfold binOp
 try dsimp only
 repeat' first
  | assumption
  | (with_reducible exact lk_complexOp _ _ _ _ _ _)
  | (with_reducible exact lk_addrMod _ _ _)
  | (with_reducible exact lk_addrCmp _ _ _)
  | (with_reducible exact lk_addrSub _ _ _)
  | (with_reducible exact lk_movedPointer _ _ _)
  | (with_reducible exact lk_movedNumber _ _ _)
  | (with_reducible exact lk_floatCmp _ _ _ _)
  | (with_reducible exact lk_floatArith _ _ _ _)
  | (with_reducible exact lk_stringOp _ _ _)
  | (with_reducible exact lk_intCmp _ _ _)
  | (with_reducible exact lk_shift _ _ _ _ _)
  | (with_reducible exact lk_intBits _ _ _ _)
  | (with_reducible exact lk_intDiv _ _ _ _)
  | (with_reducible exact lk_intArith _ _ _ _)
  | (with_reducible exact lk_equal _ _ _)
  | (with_reducible exact lk_behindNumber _)
  | (with_reducible exact lk_underlying _)
  | (with_reducible exact lk_uaddressObserved)
  | (with_reducible exact lk_stuck _)
  | (with_reducible exact lk_pure _)
  | (with_reducible refine lk_bind ?_ (fun _ => ?_))
  | split
  | dsimp only
  | intro _
end Go.Lift
set_option maxHeartbeats 4000000
namespace Go.Lift
variable {α β : Type} {P : Program} {F : Array Func} {Z : Veil}
theorem lk_ite {c : Prop} [Decidable c] {x y : Sem α} (hx : Lk P F Z x) (hy : Lk P F Z y) : Lk P F Z (if c then x else y) := by
 by_cases h : c
 ·rw [if_pos h]; exact hx
 ·rw [if_neg h]; exact hy
def Asks (P : Program) (s : Sem α) : Prop := ∀ w, ∃ r, s.run P w = .ok r w /\ ∀ es, s.events P w es = es
theorem ask_pure (a : α) : Asks P (pure a : Sem α) := fun _ => ⟨a, rfl, fun _ => rfl⟩
theorem ask_shape (r : Nat) : Asks P (shape r) := fun w => ⟨w.shape? r, rfl, fun _ => rfl⟩
theorem ask_frozen (a : Addr) : Asks P (frozen a) := fun w => ⟨w.frozen? a, rfl, fun _ => rfl⟩
theorem ask_bind {x : Sem α} {f : α -> Sem β} (hx : Asks P x) (hf : ∀ a, Asks P (f a)) : Asks P (x >>= f) := by
 intro w
 obtain ⟨r, h1, h2⟩ := hx w
 obtain ⟨r', k1, k2⟩ := hf r w
 exact ⟨r', by rw [Sem.run_bind, h1]; exact k1, fun es => by rw [Sem.events_bind, h1, h2]; exact k2 es⟩
theorem ask_holds (a : Addr) (n : Nat) : Asks P (Builtin.holdsCells a n) := by
 unfold Builtin.holdsCells
 refine ask_bind (ask_shape _) (fun s => ?_)
 split <;> exact ask_pure _
theorem ask_share (a b c : Nat) (d : Option Addr) (x : Value) : Asks P (Builtin.mayShare a b c d x) := by
 have fin : ∀ t : Bool, Asks P (if (!t) = true then (pure true : Sem Bool) else
    match x with
    | Value.slice (some q) _ _ => do
     let r <- Builtin.holdsCells q (c * a)
     pure (!r || Option.any (fun x => x.block == q.block) d)
    | _ => pure false) := by
  intro t
  split
  ·exact ask_pure _
  ·split
   ·exact ask_bind (ask_holds _ _) (fun _ => ask_pure _)
   ·exact ask_pure _
 unfold Builtin.mayShare
 dsimp only
 split
 ·exact ask_bind (ask_pure _) fin
 ·exact ask_bind (ask_holds _ _) (fun _ => ask_bind (ask_frozen _) (fun _ => ask_bind (ask_pure _) fin))
theorem lk_askHalt {x : Sem α} {f : α -> Sem β} {h : Halt} (hh : HaltOk h) (hx : ∀ R : Program, Asks R x) (hf : ∀ (R : Program) a w, (f a).run R w = .halt h w) (he : ∀ a w es B, AllClean Z B es -> AllClean Z B ((f a).events P w es)) : Lk P F Z (x >>= f) := by
 refine lk_ok fun w v es B hr hc hB => ?_
 obtain ⟨r, h1, h2⟩ := hx P w
 obtain ⟨r', k1, _⟩ := hx (strip P F) v
 rw [Sem.run_bind, Sem.run_bind, Sem.events_bind, h1, k1, h2]
 simp only [Result.andThen_ok, Result.evThen_ok, hf]
 exact .inr ⟨⟨rfl, hh, .refl hr⟩, he r w es B hc⟩
theorem lk_shareEnd (a b c : Nat) (d : Option Addr) (x : Value) (s : String) : Lk P F Z (Builtin.mayShare a b c d x >>= fun r => if (!r) = true then (mark .noRoom >>= fun _ => (unsupported (.resourceLimit s) : Sem α)) else unsupported (.resourceLimit s)) := by
 refine lk_askHalt (h := .unsupported (.resourceLimit s)) trivial (fun R => ask_share _ _ _ _ _) (fun R r w => ?_) (fun r w es B hc => ?_)
 ·cases r <;> rfl
 ·cases r
  ·exact clean_push hc (show Clean Z B ⟨.mark .noRoom, _, _⟩ from .inr rfl)
  ·exact hc
theorem lk_append (t : Array TypeId) (u : TypeId) (x : Array Value) : Lk P F Z (Builtin.append_ t u x) := by
 unfold Builtin.append_
 try dsimp only
 repeat' first
  | assumption
  | (with_reducible exact lk_shareEnd _ _ _ _ _ _)
  | (with_reducible exact lk_firstCells _ _ _)
  | (with_reducible exact lk_lenOf _)
  | (with_reducible exact lk_askRoom _)
  | (with_reducible exact lk_asInt _)
  | (with_reducible exact lk_runtimePanic _)
  | (with_reducible exact lk_newRow _ _)
  | (with_reducible exact lk_storeCells _ _ _)
  | (with_reducible exact lk_sizeOf _)
  | (with_reducible exact lk_zeroValue _)
  | (with_reducible exact lk_underlying _)
  | (with_reducible exact lk_typeInfo _)
  | (with_reducible exact lk_choose _)
  | (with_reducible exact lk_stuck _)
  | (with_reducible exact lk_pure _)
  | (with_reducible refine lk_ite ?_ ?_)
  | (with_reducible refine lk_bind ?_ (fun _ => ?_))
  | split
  | dsimp only
  | intro _
end Go.Lift
namespace Go.Lift
variable {α β : Type} {P : Program} {F : Array Func} {Z : Veil}
theorem lk_loadSeen {a : Addr} {m : Mode} {k : Value -> Sem α} (ih : ¬ Z a.block -> ∀ x, Lk P F Z (k x)) : Lk P F Z (load a m >>= k) := by
 refine ⟨fun w v es B hr hc ha hB => ?_⟩
 by_cases hz : Z a.block
 ·have hl := hr.look a.block
  rcases hr.ways a.block with ⟨⟨e, h1⟩, _⟩ | h1 | ⟨o', h1, h2⟩ | ⟨h1, h2, h3⟩
  ·obtain ⟨e1, e2, _⟩ := dark_far (Q := strip P F) h1 (m == .atomic)
   left
   show Bad ((Sem.load m a k).run (strip P F) v)
   simp only [Sem.run, e1, e2]; trivial
  ·obtain ⟨e1, e2, _⟩ := shut_far (Q := strip P F) h1 (m == .atomic)
   left
   show Bad ((Sem.load m a k).run (strip P F) v)
   simp only [Sem.run, e1, e2]; trivial
  ·obtain ⟨e1, s, e2⟩ := blind_load (Q := strip P F) (m := m == .atomic) h1 h2
   left
   show Bad ((Sem.load m a k).run (strip P F) v)
   simp only [Sem.run, e1, e2]; trivial
  ·have hn : ∀ x, w.cell? a ≠ some x := fun x hx => let ⟨o, x1, x2⟩ := cell_cells hx; h3 o x1 x2 hz
   have hnw : w.cell? a = none := by
    cases hx : w.cell? a with
    | none => rfl
    | some x => exact absurd hx (hn x)
   left
   show Bad ((Sem.load m a k).run (strip P F) v)
   simp only [Sem.run, cell_same h1, hnw, plain_far (w := v) (P := strip P F) (h1 ▸ h2), noCell_stuck (Z := Z) (fun o ho => ⟨h2 o (h1 ▸ ho), hr.code _ o ho⟩)]
   trivial
 ·exact (lock_load (k := k) (fun x => (ih hz x).ok)) w v es B hr hc ha hB
theorem lk_freeze {a : Addr} {n : Nat} (hz : ¬ Z a.block) : Lk P F Z (freeze a n) := by
 refine lk_ok fun w v es B hr hc hB => ?_
 show Bad (Result.ok () (v.freeze a n)) \/ (Alike Z w v (Result.ok () (w.freeze a n)) (Result.ok () (v.freeze a n)) /\ AllClean Z B es)
 refine .inr ⟨⟨rfl, ?_⟩, hc⟩
 unfold World.freeze
 split
 ·exact .refl hr
 ·exact ⟨hr.modify hz (fun o ho => by cases o <;> first | rfl | exact absurd trivial ho) (fun o ho => by cases o <;> first | exact trivial | exact ho.elim), rfl, rfl, Nat.le_refl _, by simp, by show v.drawn = v.drawn + (w.drawn - w.drawn); omega, .modify hr (fun o ho => by cases o <;> first | rfl | exact absurd trivial ho) (fun o ho => by cases o <;> first | exact trivial | exact ho.elim)⟩
theorem lk_loadBytes : ∀ (n : Nat) (a : Addr) (acc : ByteArray), Lk P F Z (loadBytes a acc n)
 | 0, _, _ => lk_pure _
 | n + 1, a, acc => by
  unfold loadBytes
  refine lk_bind (lk_load _ _) (fun x => ?_)
  split
  ·exact lk_loadBytes n _ _
  ·exact lk_stuck _
theorem lk_bytesFreeze (n m : Nat) (a : Addr) (acc : ByteArray) : Lk P F Z (loadBytes a acc (n + 1) >>= fun s => freeze a m >>= fun _ => pure (Value.string s)) := by
 unfold loadBytes
 rw [bind_assoc]
 refine lk_loadSeen (fun hz x => ?_)
 split
 ·exact lk_bind (lk_loadBytes _ _ _) (fun _ => lk_bind (lk_freeze hz) (fun _ => lk_pure _))
 ·exact lk_stuck _
theorem lk_shapeDark {r : Nat} {k : Option (TypeId × Nat) -> Sem α} (hk : ∀ e (v : World), v.heap[r]? = some (.cells #[] e) -> Bad ((k (some (e, 0))).run (strip P F) v)) (ih : ∀ s, Lk P F Z (k s)) : Lk P F Z (shape r >>= k) := by
 refine ⟨fun w v es B hr hc ha hB => ?_⟩
 have h := (ih (w.shape? r)).ok w v es B hr hc ha hB
 show Bad ((k (v.shape? r)).run (strip P F) v) \/ (Alike Z w v ((k (w.shape? r)).run P w) ((k (v.shape? r)).run (strip P F) v) /\ AllClean Z B ((k (w.shape? r)).events P w es))
 have l := hr.look r
 have e : (∃ e, v.heap[r]? = some (.cells #[] e) /\ v.shape? r = some (e, 0)) \/ v.shape? r = w.shape? r := by
  unfold World.shape?
  revert l
  generalize w.heap[r]? = x
  generalize v.heap[r]? = y
  intro l
  cases l with
  | dark _ => exact .inl ⟨_, rfl, rfl⟩
  | @shut o _ h1 _ _ => cases o <;> first | exact absurd trivial h1 | exact .inr rfl
  | @view o o' h1 h2 => cases o <;> first | exact h1.elim | (cases o' <;> first | exact h2.elim | exact .inr rfl)
  | same _ => exact .inr rfl
 rcases e with ⟨e, h1, he⟩ | he
 ·left; rw [he]; exact hk e v h1
 ·rw [he]; exact h
theorem sameLayout_strip : ∀ (d : Nat) (t u : TypeId), sameLayout (strip P F) d t u = sameLayout P d t u
 | 0, _, _ => rfl
 | d + 1, t, u => by
  have ih : sameLayout (strip P F) d = sameLayout P d := funext fun t => funext fun u => sameLayout_strip d t u
  simp only [sameLayout, ih, stoodInHeld_strip (P := P) (F := F)]
  rfl
theorem rowAt_strip (f : TypeId -> Bool) : ∀ (d : Nat) (e : TypeId) (a b c : Nat), rowAt (strip P F) f d e a b c = rowAt P f d e a b c
 | 0, _, _, _, _ => rfl
 | d + 1, e, a, b, c => by
  have ih : rowAt (strip P F) f d = rowAt P f d := funext fun e => funext fun a => funext fun b => funext fun c => rowAt_strip f d e a b c
  simp only [rowAt, ih, stoodInHeld_strip (P := P) (F := F)]
  rfl
theorem liesAt_strip : ∀ (d : Nat) (e : TypeId) (a b : Nat) (u : TypeId) (n : Nat), liesAt (strip P F) d e a b u n = liesAt P d e a b u n
 | 0, _, _, _, _, _ => rfl
 | d + 1, e, a, b, u, n => by
  have ih : liesAt (strip P F) d = liesAt P d := funext fun e => funext fun a => funext fun b => funext fun u => funext fun n => liesAt_strip d e a b u n
  simp only [liesAt, ih, rowAt_strip, sameLayout_strip, depth_strip (P := P) (F := F)]
  rfl
theorem lk_variables {a : Addr} {e : TypeId} {n : Nat} {A B : Sem α} (hA : Lk P F Z A) (hB : Lk P F Z B) (dA : ∀ (e : TypeId) (v : World), v.heap[a.block]? = some (.cells #[] e) -> Bad (A.run (strip P F) v)) (dB : Doomed (strip P F) B) :
  Lk P F Z (variablesAt a e n >>= fun b => if b = true then A else B) := by
 unfold variablesAt
 rw [bind_assoc]
 refine lk_program ?_ ?_
 ·simp only [liesAt_strip, depth_strip (P := P) (F := F)]
  rfl
 ·rw [bind_assoc]
  refine lk_shapeDark (fun e' v hv => ?_) (fun s => ?_)
  ·simp only [pure_bind]
   split
   ·exact dA e' v hv
   ·exact dB v
  ·split
   ·rw [pure_bind]; exact lk_ite hA hB
   ·rw [pure_bind]; exact lk_ite hA hB
theorem lk_haltBind {x : Sem α} {f : α -> Sem β} (hx : Lk P F Z x) (hh : ∀ (R : Program) (w : World), ∃ h w', x.run R w = .halt h w') : Lk P F Z (x >>= f) := by
 refine ⟨fun w v es B hr hc ha hB => ?_⟩
 obtain ⟨h, w', e⟩ := hh P w
 obtain ⟨k, v', e'⟩ := hh (strip P F) v
 have ha' : Agree w v (wOf ((x >>= f).run P w)).drawn := ha
 have hB' : (wOf ((x >>= f).run P w)).heap.size <= B := hB
 rw [Sem.run_bind, e] at ha' hB'
 have := hx.ok w v es B hr hc (by rw [e]; exact ha') (by rw [e]; exact hB')
 rw [e, e'] at this
 rw [Sem.run_bind, Sem.run_bind, Sem.events_bind, e, e']
 rcases this with t | ⟨t, t'⟩
 ·exact .inl t
 ·exact .inr ⟨⟨t.1, t.2.1, t.2.2⟩, t'⟩
theorem panics (e : RuntimeError) (R : Program) (w : World) : ∃ h w', (runtimePanic e : Sem α).run R w = .halt h w' := by
 have hb : ∀ {γ : Type} (x : Sem γ) (g : γ -> Sem α), (∀ a w, ∃ h w', (g a).run R w = .halt h w') -> ∀ w, ∃ h w', (x >>= g).run R w = .halt h w' := by
  intro γ x g hg w
  rw [Sem.run_bind]
  cases x.run R w with
  | ok a w' => exact hg a w'
  | halt h w' => exact ⟨h, w', rfl⟩
 unfold runtimePanic
 refine hb _ _ (fun p w => ?_) w
 dsimp only
 cases e with
 | typeAssertion i c a m => exact hb _ _ (fun _ w => hb _ _ (fun _ w => ⟨_, w, rfl⟩) w) w
 | panicNil => exact hb _ _ (fun _ w => hb _ _ (fun _ w => ⟨_, w, rfl⟩) w) w
 | _ => exact ⟨_, w, rfl⟩
theorem lk_panicBind (e : RuntimeError) (f : α -> Sem β) : Lk P F Z ((runtimePanic e : Sem α) >>= f) := lk_haltBind (lk_runtimePanic e) (panics e)
theorem lk_unsafeString (t : Array TypeId) (u : TypeId) (p : Option Addr) (y : Value) : Lk P F Z (Builtin.unsafeString_ t u #[.pointer p, y]) := by
 unfold Builtin.unsafeString_
 dsimp only
 refine lk_bind (lk_asInt _) (fun n => ?_)
 split
 ·split
  ·exact lk_panicBind _ _
  ·rename_i hn
   split
   ·exact lk_unsupported _
   ·split
    ·exact lk_ite (lk_pure _) (lk_runtimePanic _)
    ·split
     ·exact lk_pure _
     ·rename_i a h0
      obtain ⟨m, hm⟩ : ∃ m, n.toNat = m + 1 := ⟨n.toNat - 1, by omega⟩
      rw [hm]
      refine lk_bind (lk_elemOf _) (fun e => lk_variables (lk_bytesFreeze _ _ _ _) (lk_unsupported _) (fun e' v hv => ?_) (fun _ => trivial))
      obtain ⟨e1, e2, _⟩ := dark_far (Q := strip P F) (a := a) hv false
      unfold loadBytes
      simp only [Sem.run_bind, load, Sem.run, e1, Go.Result.andThen]
      have e3 : v.farLoad (strip P F) a (Mode.plain == Mode.atomic) = .error (.stuck "load: no such cell") := e2
      simp only [e3]
      trivial
 ·exact lk_stuck _
theorem lk_get (t : TypeId) (x : Place) : Lk P F Z (x.get t) := by
 cases x
 ·exact lk_pure _
 ·exact lk_loadVar _ _
theorem lk_follow : ∀ (l : List FieldStep) (t : TypeId) (x : Place), Lk P F Z (follow l t x)
 | [], _, _ => lk_pure _
 | s :: l, t, x => by
  have ih := lk_follow l
  unfold follow
  repeat' first
   | assumption
   | (with_reducible exact ih _ _)
   | (with_reducible exact lk_get _ _)
   | (with_reducible exact lk_fieldPlace _ _)
   | (with_reducible exact lk_asAddr _)
   | (with_reducible exact lk_part _ _ _)
   | (with_reducible exact lk_underlying _)
   | (with_reducible exact lk_stuck _)
   | (with_reducible exact lk_pure _)
   | (with_reducible refine lk_ite ?_ ?_)
   | (with_reducible refine lk_bind ?_ (fun _ => ?_))
   | split
   | dsimp only
   | intro _
theorem lk_wrapNil (t : Array TypeId) (u : TypeId) (x : Value) (a b : ByteArray) : Lk P F Z (Builtin.ssaWrapNilChk_ t u #[x, .string a, .string b]) := by
 unfold Builtin.ssaWrapNilChk_
 conv =>
  arg 4
  whnf
 dsimp only
 repeat' first
  | assumption
  | (with_reducible exact lk_panicBind _ _)
  | (with_reducible exact lk_runtimePanic _)
  | (with_reducible exact lk_underlying _)
  | (with_reducible exact lk_typeInfo _)
  | (with_reducible exact lk_choose _)
  | (with_reducible exact lk_unoEntry _)
  | (with_reducible exact lk_stuck _)
  | (with_reducible exact lk_pure _)
  | (with_reducible refine lk_ite ?_ ?_)
  | (with_reducible refine lk_bind ?_ (fun _ => ?_))
  | split
  | dsimp only
  | intro _
theorem lk_wrapNil' (t : Array TypeId) (u : TypeId) (x : Value) (a b : String) : Lk P F Z (Builtin.ssaWrapNilChk_ t u #[x, strVal a, strVal b]) := lk_wrapNil _ _ _ _ _
theorem lk_receiverAt (t : TypeId) (x : Place) (b : Bool) (s : Option String) : Lk P F Z (receiverAt t x b s) := by
 unfold receiverAt
 try dsimp only
 repeat' first
  | assumption
  | (with_reducible exact lk_wrapNil' _ _ _ _ _)
  | (with_reducible exact lk_get _ _)
  | (with_reducible exact lk_asAddr _)
  | (with_reducible exact lk_loadVar _ _)
  | (with_reducible exact lk_underlying _)
  | (with_reducible exact lk_stuck _)
  | (with_reducible exact lk_pure _)
  | (with_reducible refine lk_bind ?_ (fun _ => ?_))
  | split
  | dsimp only
  | intro _
theorem lk_receiverVia (t : TypeId) (x : Value) (p : Array FieldStep) (b : Bool) : Lk P F Z (receiverVia t x p b) := by
 unfold receiverVia
 try dsimp only
 repeat' first
  | assumption
  | (with_reducible exact lk_receiverAt _ _ _ _)
  | (with_reducible exact lk_follow _ _ _)
  | (with_reducible refine lk_bind ?_ (fun _ => ?_))
  | split
  | dsimp only
  | intro _
theorem lk_method : ∀ (n : Nat) (t : TypeId) (x : Value) (s : String), Lk P F Z (method n t x s)
 | 0, _, _, _ => lk_unsupported _
 | n + 1, t, x, s => by
  have ih := lk_method n
  unfold method
  repeat' first
   | assumption
   | (with_reducible exact ih _ _ _)
   | (with_reducible exact lk_receiverAt _ _ _ _)
   | (with_reducible exact lk_follow _ _ _)
   | (with_reducible exact lk_get _ _)
   | (with_reducible exact lk_runtimePanic _)
   | (with_reducible exact lk_typeInfo _)
   | (with_reducible exact lk_stuck _)
   | (with_reducible exact lk_pure _)
   | (with_reducible refine lk_bind ?_ (fun _ => ?_))
   | split
   | dsimp only
   | intro _
theorem lk_followBlind : ∀ (l : List FieldStep) (t : TypeId) (x : Option Value), Lk P F Z (followBlind l t x)
 | [], _, _ => lk_pure _
 | s :: l, t, x => by
  have ih := lk_followBlind l
  unfold followBlind
  repeat' first
   | assumption
   | (with_reducible exact ih _ _)
   | (with_reducible exact lk_part _ _ _)
   | (with_reducible exact lk_underlying _)
   | (with_reducible exact lk_stuck _)
   | (with_reducible exact lk_pure _)
   | (with_reducible refine lk_bind ?_ (fun _ => ?_))
   | split
   | dsimp only
   | intro _
theorem lk_nilAhead : ∀ (n : Nat) (t : TypeId) (x : Value) (s : String), Lk P F Z (nilAhead n t x s)
 | 0, _, _, _ => lk_pure _
 | n + 1, t, x, s => by
  have ih := lk_nilAhead n
  unfold nilAhead
  repeat' first
   | assumption
   | (with_reducible exact ih _ _ _)
   | (with_reducible exact lk_followBlind _ _ _)
   | (with_reducible exact lk_underlying _)
   | (with_reducible exact lk_typeInfo _)
   | (with_reducible exact lk_stuck _)
   | (with_reducible exact lk_pure _)
   | (with_reducible refine lk_bind ?_ (fun _ => ?_))
   | split
   | dsimp only
   | intro _
theorem lk_floatToInt (k : FloatKind) (n : Nat) (l : IntKind) : Lk P F Z (Conv.floatToInt k n l) := by
 unfold Conv.floatToInt
 try dsimp only
 repeat' first
  | assumption
  | (with_reducible exact lk_choose _)
  | (with_reducible exact lk_pure _)
  | (with_reducible refine lk_ite ?_ ?_)
  | (with_reducible refine lk_bind ?_ (fun _ => ?_))
  | split
  | dsimp only
  | intro _
theorem lk_getLoop (l : Nat) : Lk P F Z (Instr.getLoop l) := by
 unfold Instr.getLoop
 try dsimp only
 repeat' first
  | assumption
  | (with_reducible exact lk_stuck _)
  | (with_reducible exact lk_pure _)
  | (with_reducible refine lk_getObj ?_ ?_)
  | ((with_reducible refine off_doomed (fun _ _ => ?_) ?_) <;> exact fun _ => trivial)
  | split
  | dsimp only
  | intro _
theorem lk_yield (l : Nat) (x : Array Value) : Lk P F Z (Instr.yield l x) := by
 unfold Instr.yield
 repeat' first
  | assumption
  | (with_reducible exact lk_getLoop _)
  | (with_reducible exact lk_stuck _)
  | (with_reducible exact lk_pure _)
  | (with_reducible refine lk_ite ?_ ?_)
  | (with_reducible refine lk_bind ?_ (fun _ => ?_))
  | split
  | dsimp only
  | intro _
end Go.Lift
namespace Go.Lift
variable {α β : Type} {P : Program} {F : Array Func} {Z : Veil}
theorem lk_delete (t : Array TypeId) (u : TypeId) (x : Array Value) : Lk P F Z (Builtin.delete_ t u x) := by
 unfold Builtin.delete_
 try dsimp only
 repeat' first
  | assumption
  | (with_reducible exact lk_findKey _ _ _)
  | (with_reducible exact lk_checkKey _ _ _ _)
  | (with_reducible exact lk_underlying _)
  | (with_reducible exact lk_setMap _ _ _)
  | (with_reducible exact lk_stuck _)
  | (with_reducible exact lk_pure _)
  | (with_reducible refine lk_getObj ?_ ?_)
  | ((with_reducible refine off_doomed (fun _ _ => ?_) ?_) <;> exact fun _ => trivial)
  | (with_reducible refine lk_bind ?_ (fun _ => ?_))
  | split
  | dsimp only
  | intro _
theorem lk_clear (t : Array TypeId) (u : TypeId) (x : Array Value) : Lk P F Z (Builtin.clear_ t u x) := by
 unfold Builtin.clear_
 try dsimp only
 repeat' first
  | assumption
  | (with_reducible exact lk_zeroValue _)
  | (with_reducible exact lk_storeCells _ _ _)
  | (with_reducible exact lk_underlying _)
  | (with_reducible exact lk_setMap _ _ _)
  | (with_reducible exact lk_stuck _)
  | (with_reducible exact lk_pure _)
  | (with_reducible refine lk_getObj ?_ ?_)
  | ((with_reducible refine off_doomed (fun _ _ => ?_) ?_) <;> exact fun _ => trivial)
  | (with_reducible refine lk_bind ?_ (fun _ => ?_))
  | split
  | dsimp only
  | intro _
theorem lk_min2 (x y : Value) : Lk P F Z (Builtin.min2 x y) := by
 unfold Builtin.min2
 try dsimp only
 repeat' first
  | assumption
  | (with_reducible exact lk_stringOp _ _ _)
  | (with_reducible exact lk_asBool _)
  | (with_reducible exact lk_choose _)
  | (with_reducible exact lk_uaddressObserved)
  | (with_reducible exact lk_stuck _)
  | (with_reducible exact lk_pure _)
  | (with_reducible refine lk_bind ?_ (fun _ => ?_))
  | split
  | dsimp only
  | intro _
theorem lk_max2 (x y : Value) : Lk P F Z (Builtin.max2 x y) := by
 unfold Builtin.max2
 try dsimp only
 repeat' first
  | assumption
  | (with_reducible exact lk_stringOp _ _ _)
  | (with_reducible exact lk_asBool _)
  | (with_reducible exact lk_choose _)
  | (with_reducible exact lk_uaddressObserved)
  | (with_reducible exact lk_stuck _)
  | (with_reducible exact lk_pure _)
  | (with_reducible refine lk_bind ?_ (fun _ => ?_))
  | split
  | dsimp only
  | intro _
theorem lk_foldlM {γ : Type} (f : β -> γ -> Sem β) (h : ∀ a b, Lk P F Z (f a b)) : ∀ (l : List γ) (b : β), Lk P F Z (l.foldlM f b)
 | [], b => by rw [List.foldlM_nil]; exact lk_pure _
 | c :: l, b => by rw [List.foldlM_cons]; exact lk_bind (h _ _) (fun a => lk_foldlM f h l a)
theorem lk_min (t : Array TypeId) (u : TypeId) (x : Array Value) : Lk P F Z (Builtin.min_ t u x) := by
 unfold Builtin.min_
 split
 ·exact lk_stuck _
 ·exact lk_foldlM _ lk_min2 _ _
theorem lk_max (t : Array TypeId) (u : TypeId) (x : Array Value) : Lk P F Z (Builtin.max_ t u x) := by
 unfold Builtin.max_
 split
 ·exact lk_stuck _
 ·exact lk_foldlM _ lk_max2 _ _
theorem lk_bytesToString (x : Value) : Lk P F Z (Conv.bytesToString x) := by
 unfold Conv.bytesToString
 try dsimp only
 repeat' first
  | assumption
  | (with_reducible exact lk_loadCells _ _)
  | (with_reducible exact lk_stuck _)
  | (with_reducible exact lk_pure _)
  | (with_reducible refine lk_forInA (fun _ _ => ?_))
  | (with_reducible refine lk_bind ?_ (fun _ => ?_))
  | split
  | dsimp only
  | intro _
theorem lock_newIf {Q : Program} {o : Obj} {k : Nat -> Sem α} (ho : Fresh Z o) (ih : ∀ r, ¬ Z r -> Lock P Q Z (k r)) : Lock P Q Z (.new o k) := by
 intro w v es B hr hc ha hB
 have hon := On.push hr ho
 simp only [Sem.run, hr.size]
 exact (ih w.heap.size (fun h => Nat.lt_irrefl _ (hr.low _ h)) _ _ es B hon.rel hc (Agree.on hon ha) hB).imp id (fun t => ⟨t.1.on hon, t.2⟩)
theorem lk_newIf {o : Obj} {f : Nat -> Sem α} (ho : Fresh Z o) (ih : ∀ r, ¬ Z r -> Lk P F Z (f r)) : Lk P F Z (newObj o >>= f) := ⟨lock_newIf (k := f) ho (fun r hr => (ih r hr).ok)⟩
theorem lk_shapeSeen {r : Nat} {k : Option (TypeId × Nat) -> Sem α} (hz : ¬ Z r) (ih : ∀ s, Lk P F Z (k s)) : Lk P F Z (shape r >>= k) := by
 refine ⟨fun w v es B hr hc ha hB => ?_⟩
 have h := (ih (w.shape? r)).ok w v es B hr hc ha hB
 show Bad ((k (v.shape? r)).run (strip P F) v) \/ (Alike Z w v ((k (w.shape? r)).run P w) ((k (v.shape? r)).run (strip P F) v) /\ AllClean Z B ((k (w.shape? r)).events P w es))
 have l := hr.look r
 have e : v.shape? r = w.shape? r := by
  unfold World.shape?
  revert l
  generalize w.heap[r]? = x
  generalize v.heap[r]? = y
  intro l
  cases l with
  | dark hd => exact absurd hd hz
  | @shut o hd _ _ _ => exact absurd hd hz
  | @view o o' h1 h2 => cases o <;> first | exact h1.elim | (cases o' <;> first | exact h2.elim | rfl)
  | same _ => rfl
 rw [e]; exact h
theorem lk_stringToBytes (e : TypeId) (s : ByteArray) : Lk P F Z (Conv.stringToBytes e s) := by
 unfold Conv.stringToBytes
 refine lk_bind (lk_choose _) (fun cap => ?_)
 dsimp only
 unfold newRow
 rw [bind_assoc]
 refine lk_newIf ⟨id, trivial⟩ (fun r hz => ?_)
 rw [pure_bind]
 unfold markStringish
 rw [bind_assoc]
 refine lk_shapeSeen hz (fun x => ?_)
 split
 ·exact lk_bind (lk_freeze hz) (fun _ => lk_pure _)
 ·exact lk_bind (lk_pure _) (fun _ => lk_pure _)
end Go.Lift
