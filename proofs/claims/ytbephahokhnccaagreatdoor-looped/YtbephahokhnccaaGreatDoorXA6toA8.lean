import Derived.Test.YtbephahokhnccaaGreatDoorXA4toA5
namespace Go.Lift
variable {α β : Type} {P : Program} {F : Array Func} {Z : Veil}
def strB (w : World) (a : Addr) : Bool := w.frozen? a || (match w.shape? a.block with
 | some (_, n) => w.frozen? { block := a.block, off := n }
 | none => false)
def nonB (w : World) (a : Addr) : Bool := match w.shape? a.block with
 | some (_, 0) => true
 | _ => false
theorem run_stringish (a : Addr) (w : World) : (stringish a).run P w = .ok (strB w a) w := by
 unfold stringish strB
 cases h : w.frozen? a with
 | true => simp [frozen, Sem.run, h]
 | false =>
  cases hs : w.shape? a.block with
  | none => simp [frozen, shape, Sem.run, h, hs]
  | some x => obtain ⟨e, n⟩ := x; simp [frozen, shape, Sem.run, h, hs]
theorem ev_stringish (a : Addr) (w : World) (es : Array Event) : (stringish a).events P w es = es := by
 unfold stringish
 cases h : w.frozen? a with
 | true => simp [frozen, Sem.events, Sem.runT, -Sem.runT_eq, bind, Sem.bind, h, pure]
 | false =>
  cases hs : w.shape? a.block with
  | none => simp [frozen, shape, Sem.events, Sem.runT, -Sem.runT_eq, bind, Sem.bind, h, hs, pure]
  | some x => obtain ⟨e, n⟩ := x; simp [frozen, shape, Sem.events, Sem.runT, -Sem.runT_eq, bind, Sem.bind, h, hs]
theorem run_mayBeOne (a b : Addr) (w : World) : (mayBeOne a b).run P w = .ok ((strB w a && strB w b) || (strB w a && nonB w a) || (strB w b && nonB w b)) w := by
 unfold mayBeOne
 simp only [Sem.run_bind, run_stringish, Result.andThen_ok, shape, Sem.run]
 rfl
theorem ev_mayBeOne (a b : Addr) (w : World) (es : Array Event) : (mayBeOne a b).events P w es = es := by
 unfold mayBeOne
 simp only [Sem.events_bind, ev_stringish, run_stringish, Result.evThen_ok, shape, Sem.run_bind, Sem.run, Result.andThen_ok]
 rfl
theorem strB_same {w v : World} (h : Rel Z w v) (a : Addr) : strB v a = strB w a /\ (strB w a = true -> nonB v a = nonB w a) := by
 have hf := fun x => h.frozen x
 have l := h.look a.block
 unfold strB nonB
 simp only [hf]
 unfold World.shape? World.frozen?
 dsimp only
 revert l
 generalize w.heap[a.block]? = x
 generalize v.heap[a.block]? = y
 intro l
 cases l with
 | dark _ => simp
 | @shut o _ h1 _ _ => cases o <;> first | exact absurd trivial h1 | exact ⟨rfl, fun _ => rfl⟩
 | @view o o' h1 h2 => cases o <;> first | exact h1.elim | (cases o' <;> first | exact h2.elim | exact ⟨rfl, fun _ => rfl⟩)
 | same _ => exact ⟨rfl, fun _ => rfl⟩
theorem lk_mayBeOne (a b : Addr) : Lk P F Z (mayBeOne a b) := by
 refine lk_ok fun w v es B hr hc hB => ?_
 rw [run_mayBeOne, run_mayBeOne, ev_mayBeOne]
 refine .inr ⟨⟨?_, .refl hr⟩, hc⟩
 obtain ⟨a1, a2⟩ := strB_same hr a
 obtain ⟨b1, b2⟩ := strB_same hr b
 rw [a1, b1]
 cases ha : strB w a <;> cases hb : strB w b <;> simp [ha, hb] at a2 b2 ⊢
 ·rw [b2]
 ·rw [a2]
theorem lk_sameAddr (a b : Addr) : Lk P F Z (sameAddr a b) := by
 unfold sameAddr
 try dsimp only
 repeat' first
  | assumption
  | (with_reducible exact lk_mayBeOne _ _)
  | (with_reducible exact lk_noView _)
  | (with_reducible exact lk_frozen _)
  | (with_reducible exact lk_choose _)
  | (with_reducible exact lk_uaddressObserved)
  | (with_reducible exact lk_pure _)
  | (with_reducible refine lk_bind ?_ (fun _ => ?_))
  | split
  | dsimp only
  | intro _
theorem lk_samePointer (a b : Option Addr) : Lk P F Z (samePointer a b) := by
 unfold samePointer
 try dsimp only
 repeat' first
  | assumption
  | (with_reducible exact lk_sameAddr _ _)
  | (with_reducible exact lk_pure _)
  | split
  | dsimp only
  | intro _
theorem alike_strip : ∀ (d : Nat) (t u : TypeId), (strip P F).alikeButTags d t u = P.alikeButTags d t u
 | 0, _, _ => rfl
 | d + 1, t, u => by
  have ih : (strip P F).alikeButTags d = P.alikeButTags d := funext fun t => funext fun u => alike_strip d t u
  simp only [Program.alikeButTags, ih]
  try rfl
theorem alike_strip' (d : Nat) : (strip P F).alikeButTags d = P.alikeButTags d := funext fun t => funext fun u => alike_strip d t u
theorem packed_strip (t : TypeId) : (strip P F).packed t = P.packed t := by
 simp only [Program.packed, Program.packedAs, alike_strip']
 rfl
theorem holdsPacked_strip : ∀ (d : Nat) (t : TypeId), (strip P F).holdsPacked d t = P.holdsPacked d t
 | 0, _ => rfl
 | d + 1, t => by
  have ih : (strip P F).holdsPacked d = P.holdsPacked d := funext fun t => holdsPacked_strip d t
  simp only [Program.holdsPacked, ih, packed_strip]
  rfl
theorem stoodInHeld_strip (t : TypeId) : (strip P F).stoodInHeld t = P.stoodInHeld t := by
 simp only [Program.stoodInHeld, Program.stoodInAs, alike_strip']
 rfl
theorem depth_strip : (strip P F).depth = P.depth := rfl
theorem eqGuardType_strip : ∀ (d : Nat) (t : TypeId), (strip P F).eqGuardType d t = P.eqGuardType d t
 | 0, _ => rfl
 | d + 1, t => by
  have ih : (strip P F).eqGuardType d = P.eqGuardType d := funext fun t => eqGuardType_strip d t
  simp only [Program.eqGuardType, ih]
  rfl
theorem pk1 {t : TypeId} {A B : Sem α} : (program >>= fun q => if P.holdsPacked q.depth t = true then A else B) = (program >>= fun q => if (strip P F).holdsPacked q.depth t = true then A else B) := by simp only [holdsPacked_strip]
theorem pk2 {t : TypeId} {A B : Sem α} : (if (strip P F).holdsPacked P.depth t = true then A else B) = (if (strip P F).holdsPacked (strip P F).depth t = true then A else B) := by rw [depth_strip (P := P) (F := F)]
theorem st1 {t : TypeId} {A B : Sem α} : (if P.stoodInHeld t = true then A else B) = (if (strip P F).stoodInHeld t = true then A else B) := by rw [stoodInHeld_strip (P := P) (F := F)]
theorem eg1 {t : TypeId} {A B : Sem α} : (program >>= fun q => if (!P.eqGuardType q.depth t) = true then A else B) = (program >>= fun q => if (!(strip P F).eqGuardType q.depth t) = true then A else B) := by simp only [eqGuardType_strip]
theorem eg2 {t : TypeId} {A B : Sem α} : (if (!(strip P F).eqGuardType P.depth t) = true then A else B) = (if (!(strip P F).eqGuardType (strip P F).depth t) = true then A else B) := by rw [depth_strip (P := P) (F := F)]
theorem lk_equalIn : ∀ (d : Nat) (t : TypeId) (x y : Value), Lk P F Z (Op.equalIn d t x y)
 | 0, _, _, _ => lk_unsupported _
 | d + 1, t, x, y => by
  have ih := lk_equalIn d
  unfold Op.equalIn
  repeat' first
   | assumption
   | (with_reducible exact ih _ _ _)
   | (with_reducible exact lk_samePointer _ _)
   | (with_reducible exact lk_sameAddr _ _)
   | (with_reducible exact lk_byteOf _)
   | (with_reducible exact lk_behindNumber _)
   | (with_reducible exact lk_runtimePanic _)
   | (with_reducible exact lk_part _ _ _)
   | (with_reducible exact lk_typeStr _)
   | (with_reducible exact lk_sizeOf _)
   | (with_reducible exact lk_underlying _)
   | (with_reducible exact lk_typeInfo _)
   | (with_reducible exact lk_choose _)
   | (with_reducible exact lk_uaddressObserved)
   | (with_reducible exact lk_unoEntry _)
   | (with_reducible exact lk_stuck _)
   | (with_reducible exact lk_pure _)
   | (with_reducible refine lk_forInA (fun _ _ => ?_))
   | (with_reducible refine lk_forInR (fun _ _ => ?_))
   | ((with_reducible refine lk_program ?_ ?_); · exact pk1)
   | ((with_reducible refine lk_program ?_ ?_); · exact pk2)
   | ((with_reducible refine lk_program ?_ ?_); · exact st1)
   | ((with_reducible refine lk_program ?_ ?_); · exact rfl)
   | (with_reducible refine lk_bind ?_ (fun _ => ?_))
   | split
   | dsimp only
   | intro _
theorem lk_equal (t : TypeId) (x y : Value) : Lk P F Z (Op.equal t x y) := by
 unfold Op.equal
 try dsimp only
 repeat' first
  | assumption
  | (with_reducible exact lk_equalIn _ _ _ _)
  | split
  | dsimp only
  | intro _
theorem lk_eqGuardIn : ∀ (d : Nat) (t : TypeId) (x y : Value), Lk P F Z (Op.eqGuardIn d t x y)
 | 0, _, _, _ => lk_unsupported _
 | d + 1, t, x, y => by
  have ih := lk_eqGuardIn d
  unfold Op.eqGuardIn
  repeat' first
   | assumption
   | (with_reducible exact ih _ _ _)
   | (with_reducible exact lk_part _ _ _)
   | (with_reducible exact lk_sizeOf _)
   | (with_reducible exact lk_underlying _)
   | (with_reducible exact lk_pure _)
   | (with_reducible refine lk_forInA (fun _ _ => ?_))
   | (with_reducible refine lk_forInR (fun _ _ => ?_))
   | (with_reducible refine lk_bind ?_ (fun _ => ?_))
   | split
   | dsimp only
   | intro _
theorem lk_checkKey (b : Bool) : ∀ (d : Nat) (t : TypeId) (x : Value), Lk P F Z (Instr.checkKey b d t x)
 | 0, _, _ => lk_unsupported _
 | d + 1, t, x => by
  have ih := lk_checkKey b d
  unfold Instr.checkKey
  repeat' first
   | assumption
   | (with_reducible exact ih _ _)
   | (with_reducible exact lk_runtimePanic _)
   | (with_reducible exact lk_part _ _ _)
   | (with_reducible exact lk_typeStr _)
   | (with_reducible exact lk_sizeOf _)
   | (with_reducible exact lk_underlying _)
   | (with_reducible exact lk_typeInfo _)
   | (with_reducible exact lk_stuck _)
   | (with_reducible exact lk_pure _)
   | (with_reducible refine lk_forInA (fun _ _ => ?_))
   | (with_reducible refine lk_forInR (fun _ _ => ?_))
   | (with_reducible refine lk_bind ?_ (fun _ => ?_))
   | split
   | dsimp only
   | intro _
theorem lk_findAsking (t : TypeId) (x : Value) : ∀ (l : List MapEntry) (i : Nat), Lk P F Z (Instr.findAsking t x l i)
 | [], _ => lk_pure _
 | e :: l, i => by
  have ih := lk_findAsking t x l
  unfold Instr.findAsking
  repeat' first
   | assumption
   | (with_reducible exact ih _)
   | (with_reducible exact lk_equal _ _ _)
   | (with_reducible exact lk_pure _)
   | (with_reducible refine lk_bind ?_ (fun _ => ?_))
   | split
   | dsimp only
   | intro _
end Go.Lift
namespace Go.Lift
variable {α β : Type} {P : Program} {F : Array Func} {Z : Veil}
theorem lk_findKey (t : TypeId) (x : Value) (l : List MapEntry) : Lk P F Z (Instr.findKey t x l) := by
 unfold Instr.findKey
 try dsimp only
 repeat' first
  | assumption
  | (with_reducible exact lk_findAsking _ _ _ _)
  | (with_reducible exact lk_underlying _)
  | (with_reducible exact lk_pure _)
  | (with_reducible refine lk_bind ?_ (fun _ => ?_))
  | split
  | dsimp only
  | intro _
theorem lk_lookup (t : TypeId) (x y : Value) (b : Bool) : Lk P F Z (Instr.lookup t x y b) := by
 unfold Instr.lookup
 try dsimp only
 repeat' first
  | assumption
  | (with_reducible exact lk_findKey _ _ _)
  | (with_reducible exact lk_checkKey _ _ _ _)
  | (with_reducible exact lk_zeroValue _)
  | (with_reducible exact lk_underlying _)
  | (with_reducible exact lk_stuck _)
  | (with_reducible exact lk_pure _)
  | (with_reducible refine lk_getObj ?_ ?_)
  | ((with_reducible refine off_doomed (fun _ _ => ?_) ?_) <;> exact fun _ => trivial)
  | (with_reducible refine lk_bind ?_ (fun _ => ?_))
  | split
  | dsimp only
  | intro _
theorem lk_keyThatStays (x y : Value) : Lk P F Z (Instr.keyThatStays x y) := by
 unfold Instr.keyThatStays
 try dsimp only
 repeat' first
  | assumption
  | (with_reducible exact lk_choose _)
  | (with_reducible exact lk_pure _)
  | (with_reducible refine lk_bind ?_ (fun _ => ?_))
  | split
  | dsimp only
  | intro _
theorem lk_mapUpdate (t : TypeId) (x y z : Value) : Lk P F Z (Instr.mapUpdate t x y z) := by
 unfold Instr.mapUpdate
 try dsimp only
 repeat' first
  | assumption
  | (with_reducible exact lk_keyThatStays _ _)
  | (with_reducible exact lk_findKey _ _ _)
  | (with_reducible exact lk_checkKey _ _ _ _)
  | (with_reducible exact lk_runtimePanic _)
  | (with_reducible exact lk_underlying _)
  | (with_reducible exact lk_setMap _ _ _)
  | (with_reducible exact lk_stuck _)
  | (with_reducible refine lk_getObj ?_ ?_)
  | ((with_reducible refine off_doomed (fun _ _ => ?_) ?_) <;> exact fun _ => trivial)
  | (with_reducible refine lk_bind ?_ (fun _ => ?_))
  | split
  | dsimp only
  | intro _
theorem lk_bindIf {x : Sem α} {f : α -> Sem β} {Q : α -> Prop} (hx : Lk P F Z x) (hq : ∀ w a w', x.run (strip P F) w = .ok a w' -> Q a) (hf : ∀ a, Q a -> Lk P F Z (f a)) : Lk P F Z (x >>= f) := by
 refine ⟨fun w v es B hr hc ha hB => ?_⟩
 by_cases hv : ∃ a v', x.run (strip P F) v = .ok a v'
 ·obtain ⟨a, v', hv⟩ := hv
  have hqa := hq v a v' hv
  show Bad ((x.bind f).run (strip P F) v) \/ (Alike Z w v ((x.bind f).run P w) ((x.bind f).run (strip P F) v) /\ AllClean Z B ((x.bind f).events P w es))
  have ha' : Agree w v (wOf ((x.bind f).run P w)).drawn := ha
  have hB' : (wOf ((x.bind f).run P w)).heap.size <= B := hB
  rw [Sem.run_bind'] at ha' hB'
  rw [Sem.run_bind', Sem.run_bind', Sem.events_bind']
  have hup : (wOf (x.run P w)).drawn <= (wOf ((x.run P w).andThen fun a w' => (f a).run P w')).drawn /\ (wOf (x.run P w)).heap.size <= (wOf ((x.run P w).andThen fun a w' => (f a).run P w')).heap.size := by
   cases x.run P w with
   | ok a w' => exact ⟨(run_up P (f a) w').drawn, (run_up P (f a) w').size⟩
   | halt h w' => exact ⟨Nat.le_refl _, Nat.le_refl _⟩
  have h := hx.ok w v es B hr hc (ha'.less hup.1) (Nat.le_trans hup.2 hB')
  clear hup ha hB
  rw [hv] at h ⊢
  revert ha' hB' h
  cases hw : x.run P w with
  | ok b w' =>
   intro ha hB h
   rcases h with h | ⟨⟨rfl, hon⟩, hcl⟩
   ·exact h.elim
   ·exact ((hf b hqa).ok w' v' _ B hon.rel hcl (Agree.on hon ha) hB).imp id (fun t => ⟨t.1.on hon, t.2⟩)
  | halt k w' =>
   intro _ _ h
   rcases h with h | ⟨h, _⟩
   ·exact h.elim
   ·exact h.elim
 ·show Bad ((x.bind f).run (strip P F) v) \/ (Alike Z w v ((x.bind f).run P w) ((x.bind f).run (strip P F) v) /\ AllClean Z B ((x.bind f).events P w es))
  have ha' : Agree w v (wOf ((x.bind f).run P w)).drawn := ha
  have hB' : (wOf ((x.bind f).run P w)).heap.size <= B := hB
  rw [Sem.run_bind'] at ha' hB'
  rw [Sem.run_bind', Sem.run_bind', Sem.events_bind']
  have hup : (wOf (x.run P w)).drawn <= (wOf ((x.run P w).andThen fun a w' => (f a).run P w')).drawn /\ (wOf (x.run P w)).heap.size <= (wOf ((x.run P w).andThen fun a w' => (f a).run P w')).heap.size := by
   cases x.run P w with
   | ok a w' => exact ⟨(run_up P (f a) w').drawn, (run_up P (f a) w').size⟩
   | halt h w' => exact ⟨Nat.le_refl _, Nat.le_refl _⟩
  have h := hx.ok w v es B hr hc (ha'.less hup.1) (Nat.le_trans hup.2 hB')
  cases hvr : x.run (strip P F) v with
  | ok a v' => exact absurd ⟨a, v', hvr⟩ hv
  | halt k v' =>
   rw [hvr] at h
   revert h
   cases hw : x.run P w with
   | ok b w' =>
    intro h
    rcases h with h | ⟨h, _⟩
    ·exact .inl h
    ·exact h.elim
   | halt k' w' =>
    intro h
    rcases h with h | ⟨⟨rfl, ho, hon⟩, hcl⟩
    ·exact .inl h
    ·exact .inr ⟨⟨rfl, ho, hon⟩, hcl⟩
theorem stuck_bind (s : String) (f : α -> Sem β) : ((stuck s : Sem α) >>= f) = stuck s := rfl
theorem lk_range (t : TypeId) (x : Value) : Lk P F Z (Instr.range t x) := by
 unfold Instr.range
 refine lk_bind (lk_underlying _) (fun d => ?_)
 split
 ·simp only [pure_bind]
  exact lk_bind (lk_newStr _ _) (fun _ => lk_pure _)
 ·simp only [pure_bind]
  exact lk_bind (lk_newIter _ _ _ _) (fun _ => lk_pure _)
 ·dsimp only
  refine lk_getObj (fun o _ => ?_) (off_doomed (fun _ _ => ?_) ?_)
  ·cases o <;> first
    | (simp only [stuck_bind]; exact lk_stuck _)
    | (simp only [pure_bind]; exact lk_bind (lk_newIter _ _ _ _) (fun _ => lk_pure _))
  ·exact fun _ => trivial
  ·exact fun _ => trivial
 ·simp only [stuck_bind]; exact lk_stuck _
theorem lk_next (x : Value) (b : Bool) (t : TypeId) : Lk P F Z (Instr.next x b t) := by
 unfold Instr.next
 try dsimp only
 repeat' first
  | assumption
  | (with_reducible exact lk_setStr _ _ _)
  | (with_reducible exact lk_setIter _ _ _ _ _)
  | (with_reducible exact lk_choose _)
  | (with_reducible exact lk_unoEntry _)
  | (with_reducible exact lk_stuck _)
  | (with_reducible exact lk_pure _)
  | (with_reducible refine lk_getObj ?_ ?_)
  | ((with_reducible refine off_doomed (fun _ _ => ?_) ?_) <;> exact fun _ => trivial)
  | (with_reducible refine lk_bind ?_ (fun _ => ?_))
  | split
  | dsimp only
  | intro _
theorem lk_entry (x : Value) : Lk P F Z (Instr.entry x) := by
 unfold Instr.entry
 try dsimp only
 repeat' first
  | assumption
  | (with_reducible exact lk_unoEntry _)
  | (with_reducible exact lk_stuck _)
  | (with_reducible exact lk_pure _)
  | (with_reducible refine lk_getObj ?_ ?_)
  | ((with_reducible refine off_doomed (fun _ _ => ?_) ?_) <;> exact fun _ => trivial)
  | (with_reducible refine lk_bind ?_ (fun _ => ?_))
  | split
  | dsimp only
  | intro _
theorem lk_intArith (o : BinOp) (k : IntKind) (x y : Int) : Lk P F Z (Op.intArith o k x y) := by
 unfold Op.intArith
 try dsimp only
 repeat' first
  | assumption
  | (with_reducible exact lk_stuck _)
  | (with_reducible exact lk_pure _)
  | split
  | dsimp only
  | intro _
theorem lk_intDiv (o : BinOp) (k : IntKind) (x y : Int) : Lk P F Z (Op.intDiv o k x y) := by
 unfold Op.intDiv
 try dsimp only
 repeat' first
  | assumption
  | (with_reducible exact lk_runtimePanic _)
  | (with_reducible exact lk_stuck _)
  | (with_reducible exact lk_pure _)
  | split
  | dsimp only
  | intro _
theorem lk_intBits (o : BinOp) (k : IntKind) (x y : Int) : Lk P F Z (Op.intBits o k x y) := by
 unfold Op.intBits
 try dsimp only
 repeat' first
  | assumption
  | (with_reducible exact lk_stuck _)
  | (with_reducible exact lk_pure _)
  | split
  | dsimp only
  | intro _
theorem lk_shift (o : BinOp) (k : IntKind) (x : Int) (l : IntKind) (y : Int) : Lk P F Z (Op.shift o k x l y) := by
 unfold Op.shift
 try dsimp only
 repeat' first
  | assumption
  | (with_reducible exact lk_runtimePanic _)
  | (with_reducible exact lk_stuck _)
  | (with_reducible exact lk_pure _)
  | split
  | dsimp only
  | intro _
theorem lk_intCmp (o : BinOp) (x y : Int) : Lk P F Z (Op.intCmp o x y) := by
 unfold Op.intCmp
 try dsimp only
 repeat' first
  | assumption
  | (with_reducible exact lk_stuck _)
  | (with_reducible exact lk_pure _)
  | split
  | dsimp only
  | intro _
theorem lk_stringOp (o : BinOp) (x y : ByteArray) : Lk P F Z (Op.stringOp o x y) := by
 unfold Op.stringOp
 try dsimp only
 repeat' first
  | assumption
  | (with_reducible exact lk_uresourceLimit _)
  | (with_reducible exact lk_stuck _)
  | (with_reducible exact lk_pure _)
  | split
  | dsimp only
  | intro _
theorem lk_unary (o : UnOp) (x : Value) : Lk P F Z (Op.unary o x) := by
 unfold Op.unary
 try dsimp only
 repeat' first
  | assumption
  | (with_reducible exact lk_intBits _ _ _ _)
  | (with_reducible exact lk_intArith _ _ _ _)
  | (with_reducible exact lk_uaddressObserved)
  | (with_reducible exact lk_stuck _)
  | (with_reducible exact lk_pure _)
  | split
  | dsimp only
  | intro _
theorem lk_floatArith (o : BinOp) (k : FloatKind) (x y : Nat) : Lk P F Z (Op.floatArith o k x y) := by
 unfold Op.floatArith
 try dsimp only
 repeat' first
  | assumption
  | (with_reducible exact lk_choose _)
  | (with_reducible exact lk_stuck _)
  | (with_reducible exact lk_pure _)
  | (with_reducible refine lk_bind ?_ (fun _ => ?_))
  | split
  | dsimp only
  | intro _
theorem lk_floatCmp (o : BinOp) (k : FloatKind) (x y : Nat) : Lk P F Z (Op.floatCmp o k x y) := by
 unfold Op.floatCmp
 try dsimp only
 repeat' first
  | assumption
  | (with_reducible exact lk_stuck _)
  | (with_reducible exact lk_pure _)
  | split
  | dsimp only
  | intro _
theorem lk_lenOf (x : Value) : Lk P F Z (Builtin.lenOf x) := by
 unfold Builtin.lenOf
 try dsimp only
 repeat' first
  | assumption
  | (with_reducible exact lk_stuck _)
  | (with_reducible exact lk_pure _)
  | split
  | dsimp only
  | intro _
theorem lk_len (t : Array TypeId) (u : TypeId) (x : Array Value) : Lk P F Z (Builtin.len_ t u x) := by
 unfold Builtin.len_
 try dsimp only
 repeat' first
  | assumption
  | (with_reducible exact lk_underlying _)
  | (with_reducible exact lk_stuck _)
  | (with_reducible exact lk_pure _)
  | (with_reducible refine lk_getObj ?_ ?_)
  | ((with_reducible refine off_doomed (fun _ _ => ?_) ?_) <;> exact fun _ => trivial)
  | (with_reducible refine lk_bind ?_ (fun _ => ?_))
  | split
  | dsimp only
  | intro _
theorem lk_firstCells (n m : Nat) (x : Value) : Lk P F Z (Builtin.firstCells n m x) := by
 unfold Builtin.firstCells
 try dsimp only
 repeat' first
  | assumption
  | (with_reducible exact lk_loadCells _ _)
  | (with_reducible exact lk_stuck _)
  | (with_reducible exact lk_pure _)
  | split
  | dsimp only
  | intro _
theorem lk_copy (t : Array TypeId) (u : TypeId) (x : Array Value) : Lk P F Z (Builtin.copy_ t u x) := by
 unfold Builtin.copy_
 try dsimp only
 repeat' first
  | assumption
  | (with_reducible exact lk_firstCells _ _ _)
  | (with_reducible exact lk_lenOf _)
  | (with_reducible exact lk_storeCells _ _ _)
  | (with_reducible exact lk_sizeOf _)
  | (with_reducible exact lk_underlying _)
  | (with_reducible exact lk_stuck _)
  | (with_reducible exact lk_pure _)
  | (with_reducible refine lk_bind ?_ (fun _ => ?_))
  | split
  | dsimp only
  | intro _
theorem lk_eqGuard (o : BinOp) (t : TypeId) (x y : Operand) (a b : Value) : Lk P F Z (eqGuard o t x y a b) := by
 unfold eqGuard
 try dsimp only
 repeat' first
  | assumption
  | (with_reducible exact lk_eqGuardIn _ _ _ _)
  | (with_reducible exact lk_unoEntry _)
  | (with_reducible exact lk_pure _)
  | ((with_reducible refine lk_program ?_ ?_); · exact eg1)
  | ((with_reducible refine lk_program ?_ ?_); · exact eg2)
  | ((with_reducible refine lk_program ?_ ?_); · exact rfl)
  | (with_reducible refine lk_bind ?_ (fun _ => ?_))
  | split
  | dsimp only
  | intro _
end Go.Lift
namespace Go.Lift
variable {α β : Type} {P : Program} {F : Array Func} {Z : Veil}
theorem run_viewAt (r : Nat) (w : World) : ∃ x, (viewAt r).run P w = (match w.heap[r]? with
    | none => .halt (.stuck "getObj: no such block") w
    | some _ => .ok x w) /\ (x.isSome = match w.heap[r]? with | some (.view ..) => true | _ => false) := by
  cases h : w.heap[r]? with
  | none => exact ⟨none, by simp [viewAt, shape, Go.getObj, Sem.run, World.shape?, h], rfl⟩
  | some o => cases o <;> first | exact ⟨none, by simp [viewAt, shape, Go.getObj, Sem.run, World.shape?, h], rfl⟩ | exact ⟨some (_, _), by simp [viewAt, shape, Go.getObj, Sem.run, World.shape?, h]; exact ⟨rfl, rfl⟩, rfl⟩
theorem ev_viewAt (r : Nat) (w : World) (es : Array Event) : (viewAt r).events P w es = match w.heap[r]? with
    | none => es
    | some (.cells ..) => es
    | some o => es.push ⟨.obj r, false, o.isChan⟩ := by
  cases h : w.heap[r]? with
  | none => simp [viewAt, shape, Go.getObj, World.shape?, h, Sem.events, Sem.runT, -Sem.runT_eq, bind, Sem.bind]
  | some o => cases o <;> simp [viewAt, shape, Go.getObj, World.shape?, h, Sem.events, Sem.runT, -Sem.runT_eq, bind, Sem.bind, pure]
theorem lk_viewSome {r : Nat} {f : Bool -> Sem α} (h : ∀ b, Lk P F Z (f b)) : Lk P F Z (viewAt r >>= fun x => f x.isSome) := by
  refine ⟨fun w v es B hr hc ha hB => ?_⟩
  have l := hr.look r
  have hb : ∀ o, w.heap[r]? = some o -> r < B := fun o ho => Nat.lt_of_lt_of_le (Array.getElem?_eq_some_iff.1 ho).1 (Nat.le_trans (run_up P _ w).size hB)
  show Bad (((viewAt r).bind fun x => f x.isSome).run (strip P F) v) \/ (Alike Z w v (((viewAt r).bind fun x => f x.isSome).run P w) (((viewAt r).bind fun x => f x.isSome).run (strip P F) v) /\ AllClean Z B (((viewAt r).bind fun x => f x.isSome).events P w es))
  have ha' : Agree w v (wOf (((viewAt r).bind fun x => f x.isSome).run P w)).drawn := ha
  have hB' : (wOf (((viewAt r).bind fun x => f x.isSome).run P w)).heap.size <= B := hB
  rw [Sem.run_bind'] at ha' hB'
  rw [Sem.run_bind', Sem.run_bind', Sem.events_bind', ev_viewAt]
  obtain ⟨x, ex, ix⟩ := run_viewAt (P := P) r w
  obtain ⟨y, ey, iy⟩ := run_viewAt (P := strip P F) r v
  rw [ex] at ha' hB'
  rw [ex, ey]
  revert l hb ha' hB' ix iy
  clear ex ey ha hB
  generalize w.heap[r]? = p
  generalize v.heap[r]? = q
  intro l hb hB ha ix iy
  cases l with
  | dark _ =>
    have e : y.isSome = x.isSome := by rw [ix, iy]
    simp only [Result.andThen_ok, Result.evThen_ok, e] at ha hB ⊢
    exact (h x.isSome).ok w v es B hr hc ha hB
  | @shut o _ h1 h2 _ =>
    have e : y.isSome = x.isSome := by rw [ix, iy]; cases o <;> first | exact absurd trivial h2 | rfl
    cases o <;> first
      | exact absurd trivial h1
      | exact absurd trivial h2
      | (simp only [Result.andThen_ok, Result.evThen_ok, e] at ha hB ⊢
         exact (h x.isSome).ok w v _ B hr (clean_push hc (show Clean Z B ⟨.obj r, _, _⟩ from hb _ rfl)) ha hB)
  | @view o o' h1 h2 =>
    cases o <;> first | exact h1.elim | skip
    cases o' <;> first | exact h2.elim | skip
    have e : y.isSome = x.isSome := by rw [ix, iy]
    simp only [Result.andThen_ok, Result.evThen_ok, e] at ha hB ⊢
    exact (h x.isSome).ok w v _ B hr (clean_push hc (show Clean Z B ⟨.obj r, _, _⟩ from hb _ rfl)) ha hB
  | same h1 =>
    cases p with
    | none => exact .inl trivial
    | some o =>
      have e : y.isSome = x.isSome := by rw [ix, iy]
      cases o <;> first
        | (simp only [Result.andThen_ok, Result.evThen_ok, e] at ha hB ⊢
           exact (h x.isSome).ok w v es B hr hc ha hB)
        | (simp only [Result.andThen_ok, Result.evThen_ok, e] at ha hB ⊢
           exact (h x.isSome).ok w v _ B hr (clean_push hc (show Clean Z B ⟨.obj r, _, _⟩ from hb _ rfl)) ha hB)
theorem lk_shapeD {r : Nat} {k : Option (TypeId × Nat) -> Sem α} (hk : ∀ e, Doomed (strip P F) (k (some (e, 0)))) (ih : ∀ s, Lk P F Z (k s)) : Lk P F Z (shape r >>= k) := by
  refine ⟨fun w v es B hr hc ha hB => ?_⟩
  have h := (ih (w.shape? r)).ok w v es B hr hc ha hB
  show Bad ((k (v.shape? r)).run (strip P F) v) \/ (Alike Z w v ((k (w.shape? r)).run P w) ((k (v.shape? r)).run (strip P F) v) /\ AllClean Z B ((k (w.shape? r)).events P w es))
  have l := hr.look r
  have e : (∃ e, v.shape? r = some (e, 0)) \/ v.shape? r = w.shape? r := by
    unfold World.shape?
    revert l
    generalize w.heap[r]? = x
    generalize v.heap[r]? = y
    intro l
    cases l with
    | dark _ => exact .inl ⟨_, rfl⟩
    | @shut o _ h1 _ _ => cases o <;> first | exact absurd trivial h1 | exact .inr rfl
    | @view o o' h1 h2 => cases o <;> first | exact h1.elim | (cases o' <;> first | exact h2.elim | exact .inr rfl)
    | same _ => exact .inr rfl
  rcases e with ⟨e, he⟩ | he
  · left; rw [he]; exact hk e v
  · rw [he]; exact h
theorem lk_newNumber (a : Addr) (l : Bool) : Lk P F Z (newObj (.number a l)) := ⟨lock_new ⟨id, trivial⟩ (fun r => lock_pure r)⟩
theorem cellOfByte_strip : ∀ (d : Nat) (e : TypeId) (n : Nat), cellOfByte (strip P F) d e n = cellOfByte P d e n
  | 0, _, _ => rfl
  | d + 1, e, n => by
    have ih : cellOfByte (strip P F) d = cellOfByte P d := funext fun e => funext fun n => cellOfByte_strip d e n
    simp only [cellOfByte, ih]
    rfl
theorem cellAtBytes_strip (d : Nat) (e : TypeId) (c o : Nat) (b : Int) : cellAtBytes (strip P F) d e c o b = cellAtBytes P d e c o b := by
  simp only [cellAtBytes, byteOfCell_strip, cellOfByte_strip]
  rfl
theorem cellAtBytes_none (d : Nat) (e : TypeId) (o : Nat) (b : Int) (hb : 0 <= b) : cellAtBytes P d e 0 o b = none := by
  unfold cellAtBytes
  simp only [Nat.zero_mul, bind, Option.bind]
  split
  · rfl
  · split
    · rfl
    · rename_i here _
      have : (decide (Int.ofNat (o / P.cellsOf e * P.bytesOf e + here) + b < 0) || decide (Int.ofNat (o / P.cellsOf e * P.bytesOf e + here) + b ≥ Int.ofNat 0)) = true := by
        simp only [Bool.or_eq_true, decide_eq_true_eq]
        right
        have : (0 : Int) <= Int.ofNat (o / P.cellsOf e * P.bytesOf e + here) := Int.natCast_nonneg _
        show (0 : Int) <= _
        omega
      simp only [this, if_true]
end Go.Lift
