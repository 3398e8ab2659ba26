import Derived.Test.YtbephahokhnccaaGreatDoorXA9toA20
import Derived.Conc.Listed
namespace Go.Lift
variable {α β : Type} {P : Program} {F : Array Func} {Z : Veil}
def isU8 : Option TypeDesc -> Bool
  | some (.int .u8) => true
  | _ => false
def okConv (P : Program) : Option TypeDesc -> Option TypeDesc -> Bool
  | some (.int _), some (.int _) => true
  | some .string, some .string => true
  | some .string, some (.slice e) => isU8 (P.underlying e)
  | some (.slice e), some .string => isU8 (P.underlying e)
  | _, _ => false
def okBuiltin (n : Nat) : Builtin -> Bool
  | .len | .append | .copy | .delete | .clear | .min | .max => true
  | .unsafeString => n == 2
  | _ => false
def okOp (P : Program) : Op -> Bool
  | .move _ | .assign _ | .pick .. | .alloc _ | .box .. | .build .. | .buildSlice .. | .load .. | .store .. | .nilCheck _ | .binOp .. | .unOp .. => true
  | .convert a b _ => okConv P (P.underlying a) (P.underlying b)
  | .makeInterface .. | .makeFunc .. | .makeMap .. | .makeSlice .. | .slice .. | .fieldAddr .. | .field .. | .indexAddr .. | .index .. | .lookup .. => true
  | .panic _ => true
  | .mapUpdate .. | .insert .. | .range .. | .next .. | .entry .. | .typeAssert .. | .extract .. => true
  | .call c => match c.callee with
    | .builtin b => okBuiltin c.args.size b
    | _ => true
  | _ => false
def okOps (P : Program) (ops : Array Oper) : Bool := ops.all fun o => okOp P o.op
def okCode (P : Program) : Code -> Bool
  | .region _ ops _ => okOps P ops
  | .seq a b => okCode P a && okCode P b
  | .cond _ a b => okCode P a && okCode P b
  | .block _ b => okCode P b
  | .loop b => okCode P b
  | .scope b => okCode P b
  | .rangeFunc _ _ a b => okCode P a && okCode P b
  | _ => true
def OkNext (P : Program) (F : Array Func) (Z : Veil) : Next -> Prop
  | .value _ => True
  | .skip => True
  | .enter f _ => P.funcs[f]? = F[f]? /\ ∀ fn b, F[f]? = some fn -> fn.body = some b -> okCode P b = true
  | .round _ _ _ a b => Z.ok a /\ Z.ok b
  | _ => False
def Gives (Q : Program) (s : Sem α) (C : α -> Prop) : Prop := ∀ v a v', s.run Q v = .ok a v' -> C a
theorem gives_pure {Q : Program} {C : α -> Prop} {a : α} (h : C a) : Gives Q (pure a : Sem α) C := by
  intro v b v' e
  cases e; exact h
theorem gives_bind {Q : Program} {x : Sem α} {f : α -> Sem β} {C : β -> Prop} (h : ∀ a, Gives Q (f a) C) : Gives Q (x >>= f) C := by
  intro v b v' e
  rw [Sem.run_bind] at e
  cases hx : x.run Q v with
  | ok a w => rw [hx] at e; exact h a w b v' e
  | halt k w => rw [hx] at e; cases e
theorem gives_halt {Q : Program} {C : α -> Prop} (h : Halt) : Gives Q (.halt h : Sem α) C := by
  intro v b v' e
  cases e
theorem gives_never {Q : Program} {x : Sem α} {C : α -> Prop} (h : ∀ w, ∃ k w', x.run Q w = .halt k w') : Gives Q x C := by
  intro v b v' e
  obtain ⟨k, w', h⟩ := h v
  rw [h] at e; cases e
structure Fair (P : Program) (F : Array Func) (Z : Veil) : Prop where
  call : ∀ f args, Lk P F Z (callFunc f args)
  gives : ∀ f args, Gives (strip P F) (callFunc f args) (OkNext P F Z)
  ok : ∀ c, Z.ok c ↔ okCode P c = true
  res : ∀ f : Nat, (F[f]?).map (·.results) = (P.funcs[f]?).map (·.results)
def GivesT (Q : Program) (Z : Veil) (s : Sem α) (C : α -> Prop) : Prop := ∀ v a v', (∀ (b : Nat) (o : Obj), v.heap[b]? = some o -> Fine Z o) -> s.run Q v = .ok a v' -> C a
theorem Gives.t {Q : Program} {s : Sem α} {C : α -> Prop} (h : Gives Q s C) : GivesT Q Z s C := fun v a v' _ e => h v a v' e
def OkTarget : Target -> Prop
  | .fn _ _ => True
  | .nil => True
  | _ => False
section
variable (H : Fair P F Z)
theorem lk_callMethod (H : Fair P F Z) (x : Value) (s : String) (y : Array Value) : Lk P F Z (callMethod x s y) := by
  unfold callMethod
  split
  · refine lk_program rfl ?_
    exact lk_bind (lk_method _ _ _ _) (fun _ => H.call _ _)
  · exact lk_runtimePanic _
  · exact lk_stuck _
theorem gives_callMethod (H : Fair P F Z) (x : Value) (s : String) (y : Array Value) : Gives (strip P F) (callMethod x s y) (OkNext P F Z) := by
  unfold callMethod
  split
  · exact gives_bind fun _ => gives_bind fun _ => H.gives _ _
  · exact gives_never (panics _ _)
  · exact gives_halt _
theorem lk_invoke (H : Fair P F Z) {t : Target} (ht : OkTarget t) (y : Array Value) : Lk P F Z (invoke t y) := by
  unfold invoke
  cases t with
  | nil => exact lk_runtimePanic _
  | fn f c =>
    cases f with
    | func f => exact H.call _ _
    | method s =>
      dsimp only
      split
      · exact lk_callMethod H _ _ _
      · exact lk_stuck _
    | methodOf t s =>
      dsimp only
      split
      · exact lk_bind (lk_underlying _) (fun d => lk_callMethod H _ _ _)
      · exact lk_stuck _
    | via t p f b =>
      dsimp only
      split
      · exact lk_bind (lk_receiverVia _ _ _ _) (fun _ => H.call _ _)
      · exact lk_stuck _
    | yield l => exact lk_yield _ _
  | _ => exact ht.elim
theorem gives_invoke (H : Fair P F Z) {t : Target} (ht : OkTarget t) (y : Array Value) : GivesT (strip P F) Z (invoke t y) (OkNext P F Z) := by
  unfold invoke
  cases t with
  | nil => exact (gives_never (panics _ _)).t
  | fn f c =>
    cases f with
    | func f => exact (H.gives _ _).t
    | method s =>
      dsimp only
      split
      · exact (gives_callMethod H _ _ _).t
      · exact (gives_halt _).t
    | methodOf t s =>
      dsimp only
      split
      · exact (gives_bind (fun d => gives_callMethod H _ _ _)).t
      · exact (gives_halt _).t
    | via t p f b =>
      dsimp only
      split
      · exact (gives_bind fun _ => H.gives _ _).t
      · exact (gives_halt _).t
    | yield l =>
      dsimp only
      intro v a v' hv e
      unfold Instr.yield Instr.getLoop at e
      rw [bind_assoc] at e
      cases hl : v.heap[l]? with
      | none => simp [Go.getObj, bind, Sem.bind, Sem.run, hl] at e
      | some o =>
        have hf := hv l o hl
        cases o <;> first
          | (simp [Go.getObj, bind, Sem.bind, Sem.run, hl, stuck] at e; done)
          | (rename_i r
             simp only [Go.getObj, bind, Sem.bind, Sem.run, hl, pure] at e
             split at e
             · cases e
             · cases e
               exact ⟨hf.1, hf.2.1⟩)
  | _ => exact ht.elim
end
theorem lk_val {s : Sem Value} (h : Lk P F Z s) : Lk P F Z (do pure (Next.value (<- s))) := lk_bind h (fun _ => lk_pure _)
theorem lk_unit {s : Sem Unit} (h : Lk P F Z s) : Lk P F Z (do s; pure Next.skip) := lk_bind h (fun _ => lk_pure _)
theorem run_under {t : TypeId} {d : TypeDesc} (h : P.underlying t = some d) (w : World) : (underlying t).run (strip P F) w = .ok d w := by
  show (match P.underlying t with | some d => pure d | none => stuck "no such type" : Sem TypeDesc).run (strip P F) w = _
  rw [h]; rfl
theorem lk_under {t : TypeId} {d : TypeDesc} {f : TypeDesc -> Sem α} (h : P.underlying t = some d) (hf : Lk P F Z (f d)) : Lk P F Z (underlying t >>= f) :=
  lk_bindIf (Q := fun x => x = d) (lk_underlying t) (fun w x w' e => by rw [run_under h] at e; cases e; rfl) (fun x hx => by subst hx; exact hf)
theorem u8_of {o : Option TypeDesc} (h : isU8 o = true) : o = some (.int .u8) := by
  cases o with
  | none => cases h
  | some d =>
    cases d with
    | int k => cases k <;> first | rfl | cases h
    | _ => cases h
theorem lk_convert {a b : TypeId} (x : Value) (h : okConv P (P.underlying a) (P.underlying b) = true) : Lk P F Z (convert a b x) := by
  unfold convert
  cases ua : P.underlying a with
  | none => rw [ua] at h; cases h
  | some d =>
  cases ub : P.underlying b with
  | none => rw [ua, ub] at h; cases d <;> cases h
  | some d' =>
  rw [ua, ub] at h
  refine lk_under ua (lk_under ub ?_)
  cases d <;> cases d' <;> first | (cases h; done) | skip
  · cases x with
    | pointer q => cases q <;> exact lk_unsupported _
    | float q n => exact lk_floatToInt _ _ _
    | int q n => exact lk_pure _
    | _ => exact lk_unsupported _
  · cases x with
    | int q n => exact lk_pure _
    | string q => exact lk_pure _
    | _ => exact lk_unoEntry _
  · cases x with
    | string q => exact lk_under (u8_of h) (lk_stringToBytes _ _)
    | _ => first | exact lk_unoEntry _ | (rename_i q _ _; cases q <;> exact lk_unoEntry _)
  · cases x with
    | int q n => exact lk_pure _
    | string q => exact lk_pure _
    | _ => exact lk_under (u8_of h) (lk_bytesToString _)
theorem lk_builtin {b : Builtin} {n : Nat} (hb : okBuiltin n b = true) (t : Array TypeId) (u : TypeId) (c : Array Bool) (x : Array Value) (hx : x.size = n) : Lk P F Z (builtin b t u c x) := by
  cases b <;> first
    | (simp [okBuiltin] at hb; done)
    | exact lk_val (lk_len _ _ _)
    | exact lk_val (lk_append _ _ _)
    | exact lk_val (lk_copy _ _ _)
    | exact lk_val (lk_delete _ _ _)
    | exact lk_val (lk_clear _ _ _)
    | exact lk_val (lk_min _ _ _)
    | exact lk_val (lk_max _ _ _)
    | (refine lk_val ?_
       simp only [okBuiltin, beq_iff_eq] at hb
       obtain ⟨l⟩ := x
       match l, hx with
       | [p, y], _ => cases p <;> first | exact lk_unsafeString _ _ _ _ | exact lk_stuck _
       | [], h => simp at h; omega
       | [_], h => simp at h; omega
       | _ :: _ :: _ :: _, h => simp at h; omega)
theorem gives_builtin {b : Builtin} {n : Nat} (hb : okBuiltin n b = true) (t : Array TypeId) (u : TypeId) (c : Array Bool) (x : Array Value) : Gives (strip P F) (builtin b t u c x) (OkNext P F Z) := by
  cases b <;> first
    | (simp [okBuiltin] at hb; done)
    | exact gives_bind fun _ => gives_pure trivial
theorem lk_exec (H : Fair P F Z) (ρ : Operand -> Value) (o : Oper) (h : okOp P o.op = true) (hp : ∀ x, o.op ≠ .panic x) : Lk P F Z (execOp ρ o) := by
  unfold execOp
  cases ho : o.op with
  | move x => exact lk_pure _
  | assign x => exact lk_pure _
  | pick c a b => exact lk_bind (lk_asBool _) (fun _ => lk_pure _)
  | alloc t => exact lk_val (lk_alloc _ _ _)
  | box t x => exact lk_val (lk_box _ _)
  | build t x => exact lk_val (lk_build _ _)
  | buildSlice t n x => exact lk_val (lk_buildSlice _ _ _)
  | load t x => exact lk_val (lk_loadAt _ _)
  | store t x y => exact lk_unit (lk_storeAt _ _ _)
  | nilCheck x =>
    dsimp only
    split
    · exact lk_runtimePanic _
    · exact lk_runtimePanic _
    · exact lk_runtimePanic _
    · split
      · exact lk_runtimePanic _
      · refine lk_program rfl ?_
        refine lk_bind (lk_nilAhead _ _ _ _) (fun _ => ?_)
        exact lk_ite (lk_unsupported _) (lk_pure _)
      · exact lk_pure _
    · exact lk_pure _
  | binOp b t x y u => exact lk_val (lk_bind (lk_eqGuard _ _ _ _ _ _) (fun _ => lk_binOp _ _ _ _))
  | unOp b t x => exact lk_val (lk_unary _ _)
  | convert a b x =>
    rw [ho] at h
    simp only [okOp] at h
    exact lk_val (lk_convert _ h)
  | makeInterface t x => exact lk_val (lk_makeInterface _ _)
  | makeFunc f x y => exact lk_val (lk_makeFunc _ _ _)
  | makeMap t x => exact lk_val (lk_makeMap _ _)
  | makeSlice t x y => exact lk_val (lk_makeSlice _ _ _)
  | slice t x a b c => exact lk_val (lk_sliceAt _ _ _ _ _)
  | fieldAddr t x n => exact lk_val (lk_fieldAt _ _ _)
  | field t x n => exact lk_val (lk_field _ _ _)
  | indexAddr t x y => exact lk_val (lk_indexAt _ _ _)
  | index t x y => exact lk_val (lk_index _ _ _)
  | lookup t x y b => exact lk_val (lk_lookup _ _ _ _)
  | mapUpdate t x y z => exact lk_unit (lk_mapUpdate _ _ _ _)
  | insert t x y z => exact lk_unit (lk_mapUpdate _ _ _ _)
  | range t x => exact lk_val (lk_range _ _)
  | next x b => exact lk_val (lk_next _ _ _)
  | entry x => exact lk_val (lk_entry _)
  | typeAssert x t u b => exact lk_val (lk_typeAssert _ _ _ _)
  | extract x n => exact lk_val (lk_extract _ _)
  | panic x => exact absurd ho (hp x)
  | call c =>
    rw [ho] at h
    simp only [okOp] at h
    dsimp only
    unfold resolve
    dsimp only
    cases hc : c.callee with
    | builtin b =>
      rw [hc] at h
      simp only [pure_bind, invoke]
      exact lk_builtin h _ _ _ _ (by simp)
    | invoke r s =>
      simp only [pure_bind]
      exact lk_invoke H (t := _) (by exact True.intro) _
    | value f =>
      dsimp only
      unfold Deferred.ofValue
      split
      · simp only [pure_bind]; exact lk_invoke H (t := _) (by exact True.intro) _
      · simp only [pure_bind]; exact lk_invoke H (t := _) (by exact True.intro) _
      · exact lk_stuck _
  | _ => rw [ho] at h; cases h
theorem gives_val {s : Sem Value} : Gives (strip P F) (do pure (Next.value (<- s))) (OkNext P F Z) := gives_bind fun x => gives_pure (C := OkNext P F Z) (a := Next.value x) trivial
theorem gives_unit {s : Sem Unit} : Gives (strip P F) (do s; pure Next.skip) (OkNext P F Z) := gives_bind fun _ => gives_pure (C := OkNext P F Z) (a := Next.skip) trivial
theorem gives_exec (H : Fair P F Z) (ρ : Operand -> Value) (o : Oper) (h : okOp P o.op = true) (hp : ∀ x, o.op ≠ .panic x) : GivesT (strip P F) Z (execOp ρ o) (OkNext P F Z) := by
  unfold execOp
  cases ho : o.op with
  | panic x => exact absurd ho (hp x)
  | nilCheck x =>
    dsimp only
    split
    · exact (gives_never (panics _ _)).t
    · exact (gives_never (panics _ _)).t
    · exact (gives_never (panics _ _)).t
    · split
      · exact (gives_never (panics _ _)).t
      · refine (gives_bind fun _ => gives_bind fun _ => ?_ : Gives _ _ _).t
        split
        · exact gives_halt _
        · exact gives_pure (C := OkNext P F Z) (a := Next.value _) trivial
      · exact (gives_pure (C := OkNext P F Z) (a := Next.value _) trivial).t
    · exact (gives_pure (C := OkNext P F Z) (a := Next.value _) trivial).t
  | call c =>
    rw [ho] at h
    simp only [okOp] at h
    dsimp only
    unfold resolve
    dsimp only
    cases hc : c.callee with
    | builtin b =>
      rw [hc] at h
      simp only [pure_bind, invoke]
      exact (gives_builtin h _ _ _ _).t
    | invoke r s =>
      simp only [pure_bind]
      exact gives_invoke H (t := _) (by exact True.intro) _
    | value f =>
      dsimp only
      unfold Deferred.ofValue
      split
      · simp only [pure_bind]; exact gives_invoke H (t := _) (by exact True.intro) _
      · simp only [pure_bind]; exact gives_invoke H (t := _) (by exact True.intro) _
      · exact (gives_halt _).t
  | _ => first
    | (rw [ho] at h; cases h; done)
    | exact gives_val.t
    | exact gives_unit.t
    | exact (gives_pure (C := OkNext P F Z) (a := Next.value _) trivial).t
    | exact (gives_bind fun _ => gives_pure trivial : Gives _ _ _).t
end Go.Lift
namespace Go.Lift
variable {α β : Type} {P : Program} {F : Array Func} {Z : Veil}
def okItem (P : Program) : Item -> Bool
  | .code c => okCode P c
  | .inLoop c => okCode P c
  | .inScope c => okCode P c
  | .inRegion ops _ => okOps P ops
  | .call .. => false
  | .extern .. => false
  | _ => true
structure TameF (P : Program) (fr : Frame) : Prop where
  todo : ∀ x ∈ fr.todo, okItem P x = true
  defers : ∀ d ∈ fr.defers, ∃ r, d = { target := .collected r, args := #[] }
  mode : fr.mode = .run \/ fr.mode = .returning
  kind : fr.kind = .normal
theorem okOps_get {ops : Array Oper} (h : okOps P ops = true) {i : Nat} {o : Oper} (ho : ops[i]? = some o) : okOp P o.op = true := by
  unfold okOps at h
  rw [Array.all_eq_true] at h
  obtain ⟨hi, rfl⟩ := Array.getElem?_eq_some_iff.1 ho
  exact h i hi
theorem findLabel_ok : ∀ {c : Code} {l : Nat} {d : Code}, okCode P c = true -> findLabel c l = some d -> okCode P d = true
  | .seq a b, l, d, h, e => by
    simp only [okCode, Bool.and_eq_true] at h
    simp only [findLabel] at e
    cases ha : findLabel a l with
    | some r =>
      rw [ha] at e
      cases e
      simp only [okCode, Bool.and_eq_true]
      exact ⟨findLabel_ok h.1 ha, h.2⟩
    | none => rw [ha] at e; exact findLabel_ok h.2 e
  | .label m, l, d, _, e => by
    simp only [findLabel] at e
    split at e
    · cases e; rfl
    · cases e
  | .skip, _, _, _, e | .region .., _, _, _, e | .cond .., _, _, _, e | .block .., _, _, _, e | .loop .., _, _, _, e | .rangeFunc .., _, _, _, e | .exit .., _, _, _, e | .scope .., _, _, _, e | .goto .., _, _, _, e | .ret, _, _, _, e | .refuse .., _, _, _, e => by simp [findLabel] at e
theorem exitTo_ok {id : Nat} : ∀ {k k' : List Item}, (∀ x ∈ k, okItem P x = true) -> exitTo id k = some k' -> ∀ x ∈ k', okItem P x = true
  | [], _, _, e => by simp [exitTo] at e
  | x :: k, k', h, e => by
    have hk : ∀ y ∈ k, okItem P y = true := fun y hy => h y (by simp [hy])
    cases x <;> first
      | exact exitTo_ok hk (by simpa [exitTo] using e)
      | (simp only [exitTo] at e
         split at e
         · cases e; exact hk
         · exact exitTo_ok hk e)
theorem gotoIn_ok {l : Nat} : ∀ {k k' : List Item}, (∀ x ∈ k, okItem P x = true) -> gotoIn l k = some k' -> ∀ x ∈ k', okItem P x = true
  | [], _, _, e => by simp [gotoIn] at e
  | x :: k, k', h, e => by
    have hk : ∀ y ∈ k, okItem P y = true := fun y hy => h y (by simp [hy])
    have hx := h x (by simp)
    cases x <;> first
      | exact gotoIn_ok hk (by simpa [gotoIn] using e)
      | (simp only [gotoIn] at e
         split at e
         · rename_i rest hf
           cases e
           intro y hy
           simp only [List.mem_cons] at hy
           rcases hy with rfl | rfl | hy
           · exact findLabel_ok (P := P) hx hf
           · exact hx
           · exact hk y hy
         · exact gotoIn_ok hk e)
theorem TameF.finish {fr : Frame} (h : TameF P fr) (x : Value) : TameF P (fr.finish x) := by
  have ht := h.todo
  unfold Frame.finish
  split
  · rename_i ops i rest k hk
    refine ⟨fun y hy => ?_, h.defers, h.mode, h.kind⟩
    simp only [List.mem_cons] at hy
    rcases hy with rfl | hy
    · exact ht (.inRegion ops (i :: rest)) (by rw [hk]; simp)
    · exact ht y (by rw [hk]; simp [hy])
  · rename_i l k hk
    refine ⟨fun y hy => ?_, h.defers, h.mode, h.kind⟩
    simp only [List.mem_cons] at hy
    rcases hy with rfl | hy
    · rfl
    · exact ht y (by rw [hk]; simp [hy])
  · rename_i k hk
    exact ⟨fun y hy => ht y (by rw [hk]; simp [hy]), h.defers, h.mode, h.kind⟩
  · rename_i d b r s k hk
    have := ht (.call d b r s) (by rw [hk]; simp)
    cases this
  · rename_i r s k hk
    have := ht (.extern r s) (by rw [hk]; simp)
    cases this
  · exact h
/-! the loop of a range over a function -/
theorem lk_newLoop {l : Loop} (h : Fine Z (.loop l)) : Lk P F Z (newObj (.loop l)) := ⟨lock_new ⟨id, h⟩ (fun r => lock_pure r)⟩
theorem lk_setLoop {r : Nat} {l : Loop} (h : Fine Z (.loop l)) : Lk P F Z (setObj r (.loop l)) := ⟨lock_setObj ⟨id, h⟩ id (fun e => by cases e) (lock_pure ())⟩
theorem lk_newDef : Lk P F Z (newObj (.deferred (some []))) := ⟨lock_new ⟨id, .inl rfl⟩ (fun r => lock_pure r)⟩
theorem lk_setDef (r : Nat) : Lk P F Z (setObj r (.deferred none)) := ⟨lock_setObj ⟨id, .inr rfl⟩ id (fun e => by cases e) (lock_pure ())⟩
theorem lk_getLoopF {l : Nat} {f : Loop -> Sem α} (h : ∀ r, Fine Z (.loop r) -> Lk P F Z (f r)) : Lk P F Z (Instr.getLoop l >>= f) := by
  unfold Instr.getLoop
  rw [bind_assoc]
  refine lk_getObjF (fun o _ hf => ?_) (off_doomed (fun _ _ => ?_) ?_)
  · cases o <;> first | exact lk_stuck "range over a function: no such loop" | (simp only [pure_bind]; exact h _ hf)
  · exact fun _ => trivial
  · exact fun _ => trivial
theorem lk_beginRound (l : Nat) : Lk P F Z (Instr.beginRound l) := by
  unfold Instr.beginRound
  refine lk_getLoopF (fun r hr => lk_bind (lk_setLoop ⟨hr.1, hr.2.1, hr.2.2⟩) (fun _ => ?_))
  split
  · exact lk_pure _
  · exact lk_runtimePanic _
  · exact lk_runtimePanic _
  · exact lk_runtimePanic _
theorem lk_endRound (l : Nat) (j : Option Code) (hj : ∀ c, j = some c -> Z.ok c) : Lk P F Z (Instr.endRound l j) := by
  unfold Instr.endRound
  exact lk_getLoopF (fun r hr => lk_bind (lk_setLoop ⟨hr.1, hr.2.1, hj⟩) (fun _ => lk_pure _))
theorem lk_endLoop (l : Nat) : Lk P F Z (Instr.endLoop l) := by
  unfold Instr.endLoop
  refine lk_getLoopF (fun r hr => ?_)
  dsimp only
  refine lk_ite (lk_panicBind _ _) (lk_bind (lk_setLoop ⟨hr.1, hr.2.1, hr.2.2⟩) (fun _ => lk_pure _))
theorem lk_takeDeferred (b : Nat) : Lk P F Z (Instr.takeDeferred b) := by
  unfold Instr.takeDeferred
  refine lk_getObjF (fun o _ hf => ?_) (off_doomed (fun _ _ => ?_) ?_)
  · cases o with
    | deferred c =>
      cases c with
      | none => exact lk_stuck "range over a function: the deferred calls have been taken"
      | some ds => exact lk_bind (lk_setDef _) (fun _ => lk_pure _)
    | _ => exact lk_stuck "range over a function: the deferred calls have been taken"
  · exact fun _ => trivial
  · exact fun _ => trivial
theorem lk_enterLoop (f : FuncId) (t : Array Value) (p : Array Tmp) (a b : Code) (o : Option Nat) (ha : Z.ok a) (hb : Z.ok b) : Lk P F Z (Instr.enterLoop f t p a b o) := by
  have fin : ∀ (d : Nat) (m : List Deferred), Lk P F Z (do pure (<- newObj (.loop { state := .ready, pending := none, fn := f, tmps := t, params := p, assign := a, body := b, defers := d }), m)) :=
    fun d m => lk_bind (lk_newLoop ⟨ha, hb, fun c hc => by cases hc⟩) (fun _ => lk_pure _)
  unfold Instr.enterLoop
  dsimp only
  split
  · exact lk_getLoopF (fun r _ => lk_bind (lk_pure _) (fun _ => fin _ _))
  · exact lk_bind lk_newDef (fun _ => lk_bind (lk_pure _) (fun _ => fin _ _))
theorem lk_results (fn : Func) (t : Array Value) : Lk P F Z (results fn t) := by
  unfold results
  refine lk_bind (lk_mapMA fun x => ?_) (fun _ => lk_pure _)
  cases x with
  | tmp t => exact lk_pure _
  | cell a t => exact lk_bind (lk_asAddr _) (fun _ => lk_loadVar _ _)
end Go.Lift
namespace Go.Lift
open Go.Conc (G mem_seen)
variable {P : Program} {F : Array Func} {Z : Veil}
def gw : GStep -> World
  | .go _ w _ => w
  | .comm _ _ _ _ w _ => w
  | .spawn _ _ w _ => w
  | .count _ w _ => w
  | .timer _ _ w _ => w
  | .alone _ _ w _ => w
  | .newcoro _ _ _ w _ => w
  | .coroswitch _ _ _ w _ => w
  | .collect _ w _ => w
  | .watch _ w _ => w
  | .ended _ w _ => w
theorem gw_after (es : Array Event) (s : GStep) : gw (s.after es) = gw s := by cases s <;> rfl
def trap (n : Nat) : Frame := { fn := n, tmps := #[], todo := [.call { target := .nil, args := #[] } false "fmt's door, shut" #[]], defers := [], mode := .run, kind := .normal }
def FineW (Z : Veil) (v : World) : Prop := ∀ (b : Nat) (o : Obj), v.heap[b]? = some o -> Fine Z o
def Marks (fr : Frame) : Prop := ∀ d ∈ fr.defers, ∃ r, d = { target := .collected r, args := #[] }
inductive DeadG (F : Array Func) : Goroutine -> Prop
  | raised {fr : Frame} {frs : List Frame} {chain : List PanicEntry} : fr.mode = .panicking chain -> Marks fr -> (∀ f ∈ frs, Marks f) -> DeadG F (G fr (frs ++ [trap F.size]))
  | caught {chain : List PanicEntry} : DeadG F (G { trap F.size with mode := .panicking chain } [])
  | popped {x : Value} : DeadG F (G ((trap F.size).finish x) [])
def LostS (F : Array Func) (Z : Veil) : GStep -> Prop
  | .ended _ _ _ => True
  | .go g v _ => DeadG F g /\ FineW Z v
  | _ => False
theorem LostS.after {s : GStep} (h : LostS F Z s) (es : Array Event) : LostS F Z (s.after es) := by
  cases s <;> first | exact h | exact h.elim
def Live (P : Program) (F : Array Func) (Z : Veil) (cw : List Frame) (w v : World) (B : Nat) (y x : GStep) : Prop :=
  LostS F Z x \/ ∃ fr frs w' v' es, y = .go (G fr (frs ++ cw)) w' es /\ x.bare = .go (G fr (frs ++ [trap F.size])) v' /\ TameF P fr /\ (∀ f ∈ frs, TameF P f) /\ On Z w v w' v' /\ AllClean Z B es
section
variable {cw : List Frame} {w v : World} {B : Nat} {y x : GStep}
theorem Live.after (h : Live P F Z cw w v B y x) {es es' : Array Event} (he : AllClean Z B es) : Live P F Z cw w v B (y.after es) (x.after es') := by
  rcases h with h | ⟨fr, frs, w', v', e, rfl, hx, h1, h2, h3, h4⟩
  · exact .inl (h.after _)
  · refine .inr ⟨fr, frs, w', v', es ++ e, rfl, ?_, h1, h2, h3, fun a ha => ?_⟩
    · cases x <;> simp_all [GStep.after, GStep.bare]
    · rcases Array.mem_append.1 ha with h | h
      · exact he a h
      · exact h4 a h
theorem Live.on {w₁ v₁ : World} (o : On Z w v w₁ v₁) (h : Live P F Z cw w₁ v₁ B y x) : Live P F Z cw w v B y x := by
  rcases h with h | ⟨fr, frs, w', v', e, hy, hx, h1, h2, h3, h4⟩
  · exact .inl h
  · exact .inr ⟨fr, frs, w', v', e, hy, hx, h1, h2, o.trans h3, h4⟩
theorem clean_nil : AllClean Z B #[] := fun _ h => by simp at h
theorem clean_seen {es : Array Event} (h : AllClean Z B es) (p : Program) (fn : FuncId) : AllClean Z B (seen p fn es) := fun e he => h e (mem_seen he)
theorem live_go {x' y' : World} (o : On Z w v x' y') {fr : Frame} {frs : List Frame} (h1 : TameF P fr) (h2 : ∀ f ∈ frs, TameF P f) :
    Live P F Z cw w v B (.go { frame := fr, callers := frs ++ cw, status := .running, dying := none } x') (.go { frame := fr, callers := frs ++ [trap F.size], status := .running, dying := none } y') :=
  .inr ⟨fr, frs, x', y', #[], rfl, rfl, h1, h2, o, clean_nil⟩
theorem lost_raise {fr : Frame} {frs : List Frame} (h1 : TameF P fr) (h2 : ∀ f ∈ frs, TameF P f) (hv : FineW Z v) (c : List PanicEntry) (es : Array Event) :
    LostS F Z (.go { frame := fr.raise c, callers := frs ++ [trap F.size], status := .running, dying := none } v es) := by
  refine ⟨?_, hv⟩
  have : ∃ c', (fr.raise c).mode = .panicking c' := by
    unfold Frame.raise
    split <;> exact ⟨_, rfl⟩
  obtain ⟨c', hc⟩ := this
  refine .raised (fr := fr.raise c) hc (fun d hd => h1.defers d ?_) (fun f hf => (h2 f hf).defers)
  unfold Frame.raise at hd
  split at hd <;> exact hd
theorem live_return {x' y' : World} (o : On Z w v x' y') {fr : Frame} {frs : List Frame} (h1 : fr.kind = .normal) (h2 : ∀ f ∈ frs, TameF P f) (a : Value) :
    Live P F Z cw w v B (doReturn P true fr (frs ++ cw) none a x') (doReturn (strip P F) true fr (frs ++ [trap F.size]) none a y') := by
  cases frs with
  | nil =>
    refine .inl ?_
    simp only [List.nil_append, doReturn, h1]
    exact ⟨.popped, o.rel.code⟩
  | cons c rest =>
    simp only [List.cons_append, doReturn, h1]
    exact live_go o ((h2 c (by simp)).finish a) (fun f hf => h2 f (by simp [hf]))
end
theorem up_ok {α : Type} {p : Program} {s : Sem α} {w w' : World} {a : α} (h : s.run p w = .ok a w') : Up w w' := by
  have := run_up p s w
  rw [h] at this
  exact this
theorem up_halt {α : Type} {p : Program} {s : Sem α} {w w' : World} {k : Halt} (h : s.run p w = .halt k w') : Up w w' := by
  have := run_up p s w
  rw [h] at this
  exact this
theorem endFatal_up (p : Program) (fr : Frame) (cs : List Frame) (d : Option Dying) (m : String) (w : World) : Up w (gw (endFatal p fr cs d m w)) := by
  unfold endFatal
  dsimp only
  split
  · rename_i heq; exact up_ok heq
  · rename_i heq; exact up_halt heq
  · rename_i heq; exact up_halt heq
theorem early_up (p : Program) (fr : Frame) (cs : List Frame) (d : Option Dying) (g : Nat) (w : World) : Up w (gw (early p fr cs d g w)) := by
  have ny : ∀ w : World, Up w (gw (match w.heap[g]? with
    | some (.pending c elem) => .go { frame := fr, callers := cs, status := .running, dying := d } { w with heap := w.heap.setIfInBounds g (.cells c elem) }
    | _ => .ended (.stuck "early: the variable does not wait" (fr.pos p)) w)) := by
    intro w
    split
    · exact ⟨Nat.le_refl _, rfl, by simp [gw]⟩
    · exact .refl _
  unfold early
  dsimp only
  split
  · exact ny w
  · split
    · exact .refl _
    · split
      · exact ny w
      · split
        · exact ny w
        · split
          · exact .refl _
          · exact .refl _
          · exact .refl _
          · exact ny w
          · split
            · exact .refl _
            · split
              · exact ny w
              · split
                · rename_i heq; exact (up_ok heq).trans (ny _)
                · rename_i heq; exact up_ok heq
                · rename_i heq; exact up_halt heq
theorem apply_up (p : Program) (fr : Frame) (cs : List Frame) (s : Sem Next) (w : World) : Up (wOf (s.run p w)) (gw (stepG.apply p true fr cs none s w)) := by
  unfold stepG.apply
  simp only [Sem.runT_eq, if_true, gw_after]
  cases s.run p w with
  | ok a w' =>
    cases a <;> dsimp only [wOf] <;> (repeat' split) <;> exact .refl _
  | halt h w' =>
    cases h with
    | unsupported u => cases u <;> first | exact .refl _ | exact early_up _ _ _ _ _ _
    | fatal m => exact endFatal_up _ _ _ _ _ _
    | _ => exact .refl _
section
variable {cw : List Frame} {w v : World} {B : Nat}
theorem apply_lock {s : Sem Next} (hs : Lk P F Z s) (hg : GivesT (strip P F) Z s (OkNext P F Z)) (H : Fair P F Z) {fr : Frame} {frs : List Frame} (h1 : TameF P fr) (h2 : ∀ f ∈ frs, TameF P f) (hr : Rel Z w v)
    (ha : Agree w v (gw (stepG.apply P true fr (frs ++ cw) none s w)).drawn) (hB : (gw (stepG.apply P true fr (frs ++ cw) none s w)).heap.size <= B) :
    Live P F Z cw w v B (stepG.apply P true fr (frs ++ cw) none s w) (stepG.apply (strip P F) true fr (frs ++ [trap F.size]) none s v) := by
  have hu := apply_up P fr (frs ++ cw) s w
  have hl := hs.ok w v #[] B hr clean_nil (ha.less hu.drawn) (Nat.le_trans hu.size hB)
  clear hu ha hB
  have hk : fr.kind = .normal := h1.kind
  have hw : ∀ d b r k l, fr.todo ≠ .call d b r k :: l := by
    intro d b r k l e
    have := h1.todo (.call d b r k) (by rw [e]; simp)
    cases this
  have hg' := hg v
  unfold stepG.apply
  simp only [Sem.runT_eq, if_true, hk]
  revert hl hg'
  generalize s.run P w = r
  generalize s.run (strip P F) v = q
  intro hl hg'
  rcases hl with hbad | ⟨hal, hcl⟩
  · refine .inl (LostS.after ?_ _)
    cases q with
    | ok a v' => exact hbad.elim
    | halt h v' =>
      cases h <;> first
        | exact hbad.elim
        | exact True.intro
        | (rename_i u
           cases u <;> first | exact hbad.elim | exact True.intro)
  · cases r with
    | ok a w' =>
      cases q with
      | halt h v' => exact hal.elim
      | ok b v' =>
        obtain ⟨rfl, ho⟩ := hal
        have hn := hg' a v' hr.code rfl
        refine Live.after ?_ (clean_seen ?_ _ _)
        rotate_left
        · split
          · exact clean_nil
          · exact hcl
        cases a <;> first
          | exact hn.elim
          | exact live_go ho (h1.finish _) h2
          | skip
        · rename_i f args
          obtain ⟨e1, e2⟩ := hn
          have hf : Frame.enter P f args .normal = Frame.enter (strip P F) f args .normal := by
            unfold Frame.enter
            dsimp only
            rw [e1]
          have ht : TameF P (Frame.enter (strip P F) f args .normal) := by
            refine ⟨fun i hi => ?_, fun d hd => by simp [Frame.enter] at hd, .inl rfl, rfl⟩
            simp only [Frame.enter, List.mem_singleton] at hi
            subst hi
            simp only [okItem]
            cases hF : F[f]? with
            | none => rfl
            | some fn =>
              cases hb : fn.body with
              | none => simp [hb, okCode]
              | some b => simpa [hb] using e2 fn b hF hb
          dsimp only
          split
          · rename_i e; exact absurd e (hw _ _ _ _ _)
          rw [hf]
          exact .inr ⟨_, fr :: frs, w', v', #[], rfl, rfl, ht, fun g hg => by
            rcases List.mem_cons.1 hg with rfl | hg
            · exact h1
            · exact h2 g hg, ho, clean_nil⟩
        · rename_i l f t a b
          refine .inr ⟨Frame.round l f t a b .normal, fr :: frs, w', v', #[], rfl, rfl, ⟨fun i hi => ?_, fun d hd => by simp [Frame.round] at hd, .inl rfl, rfl⟩, fun g hg => by
            rcases List.mem_cons.1 hg with rfl | hg
            · exact h1
            · exact h2 g hg, ho, clean_nil⟩
          simp only [Frame.round, List.mem_cons, List.not_mem_nil, or_false] at hi
          rcases hi with rfl | rfl | rfl
          · exact (H.ok a).1 hn.1
          · rfl
          · exact (H.ok b).1 hn.2
    | halt h w' =>
      cases q with
      | ok b v' => exact hal.elim
      | halt k v' =>
        obtain ⟨rfl, hh, ho⟩ := hal
        refine .inl (LostS.after ?_ _)
        cases h <;> first
          | exact hh.elim
          | exact lost_raise h1 h2 ho.rel.code _ _
          | (rename_i u
             cases u <;> first | exact hh.elim | exact True.intro)
end
end Go.Lift
