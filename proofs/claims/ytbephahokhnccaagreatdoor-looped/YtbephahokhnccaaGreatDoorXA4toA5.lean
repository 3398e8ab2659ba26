import Derived.Test.YtbephahokhnccaaGreatDoorXA1toA3
namespace Go.Lift
variable {α β : Type} {P : Program} {F : Array Func} {Z : Veil}
abbrev strip (P : Program) (F : Array Func) : Program := { P with funcs := F }
structure Lk {α : Type} (P : Program) (F : Array Func) (Z : Veil) (s : Sem α) : Prop where
 ok : Lock P (strip P F) Z s
theorem lk_bind {x : Sem α} {f : α -> Sem β} (hx : Lk P F Z x) (hf : ∀ a, Lk P F Z (f a)) : Lk P F Z (x >>= f) := ⟨lock_bind hx.ok fun a => (hf a).ok⟩
theorem lk_map {x : Sem α} {f : α -> β} (hx : Lk P F Z x) : Lk P F Z (Functor.map f x) := ⟨lock_bind hx.ok (fun _ => lock_pure _)⟩
theorem lk_pure (a : α) : Lk P F Z (pure a : Sem α) := ⟨lock_pure a⟩
theorem lk_getObj {r : Nat} {f : Obj -> Sem α} (ih : ∀ o, ¬ IsView o -> Lk P F Z (f o)) (hd : ∀ o, Off o -> Doomed (strip P F) (f o)) : Lk P F Z (getObj r >>= f) := ⟨lock_getObj (k := f) (fun o ho _ => (ih o ho).ok) hd⟩
theorem lk_getObjF {r : Nat} {f : Obj -> Sem α} (ih : ∀ o, ¬ IsView o -> Fine Z o -> Lk P F Z (f o)) (hd : ∀ o, Off o -> Doomed (strip P F) (f o)) : Lk P F Z (getObj r >>= f) := ⟨lock_getObj (k := f) (fun o ho hf => (ih o ho hf).ok) hd⟩
theorem lk_program {f : Program -> Sem α} (he : f P = f (strip P F)) (ih : Lk P F Z (f (strip P F))) : Lk P F Z (program >>= f) := ⟨lock_program (k := f) he ih.ok⟩
theorem lk_cells (c : Array Value) (e : TypeId) (f : Nat × Nat) : Lk P F Z (newObj (.cells c e f)) := ⟨lock_new ⟨id, trivial⟩ (fun r => lock_pure r)⟩
theorem lk_newMap (es : Array MapEntry) (n : Nat) : Lk P F Z (newObj (.map es n)) := ⟨lock_new ⟨id, trivial⟩ (fun r => lock_pure r)⟩
theorem lk_newIter (m : Option Nat) (a : Nat) (s : Array Nat) (b : Nat) : Lk P F Z (newObj (.mapIter m a s b)) := ⟨lock_new ⟨id, trivial⟩ (fun r => lock_pure r)⟩
theorem lk_newStr (s : ByteArray) (n : Nat) : Lk P F Z (newObj (.stringIter s n)) := ⟨lock_new ⟨id, trivial⟩ (fun r => lock_pure r)⟩
theorem lk_setMap (r : Nat) (es : Array MapEntry) (n : Nat) : Lk P F Z (setObj r (.map es n)) := ⟨lock_setObj ⟨id, trivial⟩ id (fun e => by cases e) (lock_pure ())⟩
theorem lk_setIter (r : Nat) (m : Option Nat) (a : Nat) (s : Array Nat) (b : Nat) : Lk P F Z (setObj r (.mapIter m a s b)) := ⟨lock_setObj ⟨id, trivial⟩ id (fun e => by cases e) (lock_pure ())⟩
theorem lk_setStr (r : Nat) (s : ByteArray) (n : Nat) : Lk P F Z (setObj r (.stringIter s n)) := ⟨lock_setObj ⟨id, trivial⟩ id (fun e => by cases e) (lock_pure ())⟩
theorem lk_choose (q : Question) : Lk P F Z (choose q) := ⟨lock_choose (fun n => lock_pure n)⟩
theorem lk_load (a : Addr) (m : Mode) : Lk P F Z (load a m) := ⟨lock_load (fun x => lock_pure x)⟩
theorem lk_store (a : Addr) (x : Value) (m : Mode) : Lk P F Z (store a x m) := ⟨lock_store (lock_pure ())⟩
theorem lk_frozen (a : Addr) : Lk P F Z (frozen a) := ⟨lock_frozen (fun b => lock_pure b)⟩
theorem lk_noRoom : Lk P F Z (mark .noRoom) := ⟨lock_mark (.inr rfl) (lock_pure ())⟩
theorem off_doomed {f : Obj -> Sem α} (h : ∀ a u, Doomed (strip P F) (f (.view a u))) (h' : Doomed (strip P F) (f (.coro none))) : ∀ o, Off o -> Doomed (strip P F) (f o) := by
 rintro o (ho | rfl)
 ·cases o <;> first | exact ho.elim | exact h _ _
 ·exact h'
theorem lk_stuck (s : String) : Lk P F Z (stuck s : Sem α) := ⟨lock_halt _ (.inr trivial)⟩
theorem lk_unsupported (u : Unsupported) (h : ∀ g, u ≠ .initOrder g := by first | assumption | (intro g hg; cases hg)) : Lk P F Z (unsupported u : Sem α) := ⟨lock_halt _ (.inl (by cases u <;> first | exact trivial | exact absurd rfl (h _)))⟩
theorem lk_unoEntry (s : String) : Lk P F Z (unsupported (.noEntry s) : Sem α) := ⟨lock_halt _ (.inl trivial)⟩
theorem lk_uunsafePointer (s : String) : Lk P F Z (unsupported (.unsafePointer s) : Sem α) := ⟨lock_halt _ (.inl trivial)⟩
theorem lk_uresourceLimit (s : String) : Lk P F Z (unsupported (.resourceLimit s) : Sem α) := ⟨lock_halt _ (.inl trivial)⟩
theorem lk_uaddressObserved : Lk P F Z (unsupported .addressObserved : Sem α) := ⟨lock_halt _ (.inl trivial)⟩
theorem lk_goPanic (x : Value) : Lk P F Z (goPanic x : Sem α) := ⟨lock_halt _ (.inl trivial)⟩
theorem lk_typeInfo (t : TypeId) : Lk P F Z (typeInfo t) := by
 unfold typeInfo
 repeat' first
  | assumption
  | (with_reducible exact lk_stuck _)
  | (with_reducible exact lk_pure _)
  | ((with_reducible refine lk_program ?_ ?_); · exact rfl)
  | split
  | dsimp only
  | intro _
theorem lk_underlying (t : TypeId) : Lk P F Z (underlying t) := by
 unfold underlying
 repeat' first
  | assumption
  | (with_reducible exact lk_stuck _)
  | (with_reducible exact lk_pure _)
  | ((with_reducible refine lk_program ?_ ?_); · exact rfl)
  | split
  | dsimp only
  | intro _
theorem lk_zeroValue (t : TypeId) : Lk P F Z (zeroValue t) := by
 unfold zeroValue
 repeat' first
  | assumption
  | (with_reducible exact lk_typeInfo _)
  | (with_reducible exact lk_uresourceLimit _)
  | (with_reducible exact lk_pure _)
  | (with_reducible refine lk_bind ?_ (fun _ => ?_))
  | split
  | dsimp only
  | intro _
theorem lk_sizeOf (t : TypeId) : Lk P F Z (sizeOf t) := by
 unfold sizeOf
 repeat' first
  | assumption
  | (with_reducible exact lk_typeInfo _)
  | (with_reducible exact lk_pure _)
  | (with_reducible refine lk_bind ?_ (fun _ => ?_))
  | split
  | dsimp only
  | intro _
theorem lk_isAgg (t : TypeId) : Lk P F Z (isAgg t) := by
 unfold isAgg
 repeat' first
  | assumption
  | (with_reducible exact lk_underlying _)
  | (with_reducible exact lk_pure _)
  | (with_reducible refine lk_bind ?_ (fun _ => ?_))
  | split
  | dsimp only
  | intro _
theorem lk_typeStr (t : TypeId) : Lk P F Z (typeStr t) := by
 unfold typeStr
 repeat' first
  | assumption
  | (with_reducible exact lk_typeInfo _)
  | (with_reducible exact lk_unoEntry _)
  | (with_reducible exact lk_pure _)
  | (with_reducible refine lk_bind ?_ (fun _ => ?_))
  | split
  | dsimp only
  | intro _
theorem lk_elemOf (t : TypeId) : Lk P F Z (elemOf t) := by
 unfold elemOf
 repeat' first
  | assumption
  | (with_reducible exact lk_underlying _)
  | (with_reducible exact lk_stuck _)
  | (with_reducible exact lk_pure _)
  | (with_reducible refine lk_bind ?_ (fun _ => ?_))
  | split
  | dsimp only
  | intro _
theorem lk_loadCellsFrom (a : Addr) : ∀ (n i : Nat) (acc : Array Value), Lk P F Z (loadCellsFrom a i n acc)
 | 0, _, _ => lk_pure _
 | n + 1, _, _ => lk_bind (lk_load _ _) (fun _ => lk_loadCellsFrom a n _ _)
theorem lk_loadCells (a : Addr) (n : Nat) : Lk P F Z (loadCells a n) := lk_loadCellsFrom a n 0 #[]
theorem lk_storeCells (a : Addr) : ∀ (vs : List Value) (i : Nat), Lk P F Z (storeCells a vs i)
 | [], _ => lk_pure _
 | _ :: rest, _ => lk_bind (lk_store _ _ _) (fun _ => lk_storeCells a rest _)
theorem lk_loadVar (t : TypeId) (a : Addr) : Lk P F Z (loadVar t a) := by
 unfold loadVar
 try dsimp only
 repeat' first
  | assumption
  | (with_reducible exact lk_loadCells _ _)
  | (with_reducible exact lk_isAgg _)
  | (with_reducible exact lk_sizeOf _)
  | (with_reducible exact lk_load _ _)
  | (with_reducible exact lk_pure _)
  | (with_reducible refine lk_bind ?_ (fun _ => ?_))
  | split
  | dsimp only
  | intro _
theorem lk_storeVar (t : TypeId) (a : Addr) (x : Value) : Lk P F Z (storeVar t a x) := by
 unfold storeVar
 try dsimp only
 repeat' first
  | assumption
  | (with_reducible exact lk_storeCells _ _ _)
  | (with_reducible exact lk_sizeOf _)
  | (with_reducible exact lk_stuck _)
  | (with_reducible refine lk_bind ?_ (fun _ => ?_))
  | split
  | dsimp only
  | intro _
theorem lk_newRow (t : TypeId) (c : Array Value) : Lk P F Z (newRow t c) := by
 unfold newRow
 try dsimp only
 repeat' first
  | assumption
  | (with_reducible exact lk_cells _ _ _)
  | (with_reducible exact lk_pure _)
  | (with_reducible refine lk_bind ?_ (fun _ => ?_))
  | split
  | dsimp only
  | intro _
theorem lk_newVar (t : TypeId) (x : Value) : Lk P F Z (newVar t x) := by
 unfold newVar
 try dsimp only
 repeat' first
  | assumption
  | (with_reducible exact lk_newRow _ _)
  | split
  | dsimp only
  | intro _
theorem lk_part (t : TypeId) (c : Array Value) (n : Nat) : Lk P F Z (part t c n) := by
 unfold part
 try dsimp only
 repeat' first
  | assumption
  | (with_reducible exact lk_isAgg _)
  | (with_reducible exact lk_sizeOf _)
  | (with_reducible exact lk_stuck _)
  | (with_reducible exact lk_pure _)
  | (with_reducible refine lk_bind ?_ (fun _ => ?_))
  | split
  | dsimp only
  | intro _
theorem lk_runtimePanic (e : RuntimeError) : Lk P F Z (runtimePanic e : Sem α) := by
 unfold runtimePanic
 try dsimp only
 repeat' first
  | assumption
  | (with_reducible exact lk_newVar _ _)
  | (with_reducible exact lk_elemOf _)
  | (with_reducible exact lk_goPanic _)
  | ((with_reducible refine lk_program ?_ ?_); · exact rfl)
  | (with_reducible refine lk_bind ?_ (fun _ => ?_))
  | split
  | dsimp only
  | intro _
theorem lk_boundsPanic (k : IntKind) (x y : Int) (c : BoundsCode) : Lk P F Z (boundsPanic k x y c : Sem α) := by
 unfold boundsPanic
 try dsimp only
 repeat' first
  | assumption
  | (with_reducible exact lk_runtimePanic _)
  | (with_reducible exact lk_choose _)
  | (with_reducible exact lk_pure _)
  | (with_reducible refine lk_bind ?_ (fun _ => ?_))
  | (with_reducible refine lk_map ?_)
  | split
  | dsimp only
  | intro _
theorem lk_asIntOf (x : Value) : Lk P F Z (asIntOf x) := by
 unfold asIntOf
 try dsimp only
 repeat' first
  | assumption
  | (with_reducible exact lk_uaddressObserved)
  | (with_reducible exact lk_stuck _)
  | (with_reducible exact lk_pure _)
  | split
  | dsimp only
  | intro _
theorem lk_asInt (x : Value) : Lk P F Z (asInt x) := by
 unfold asInt
 try dsimp only
 repeat' first
  | assumption
  | (with_reducible exact lk_asIntOf _)
  | (with_reducible exact lk_pure _)
  | (with_reducible refine lk_bind ?_ (fun _ => ?_))
  | split
  | dsimp only
  | intro _
theorem lk_asBool (x : Value) : Lk P F Z (asBool x) := by
 unfold asBool
 try dsimp only
 repeat' first
  | assumption
  | (with_reducible exact lk_stuck _)
  | (with_reducible exact lk_pure _)
  | split
  | dsimp only
  | intro _
theorem lk_asAgg (x : Value) : Lk P F Z (asAgg x) := by
 unfold asAgg
 try dsimp only
 repeat' first
  | assumption
  | (with_reducible exact lk_stuck _)
  | (with_reducible exact lk_pure _)
  | split
  | dsimp only
  | intro _
theorem lk_asAddr (x : Value) : Lk P F Z (asAddr x) := by
 unfold asAddr
 try dsimp only
 repeat' first
  | assumption
  | (with_reducible exact lk_runtimePanic _)
  | (with_reducible exact lk_stuck _)
  | (with_reducible exact lk_pure _)
  | split
  | dsimp only
  | intro _
theorem lk_askRoom (n : Nat) : Lk P F Z (askRoom n) := by
 unfold askRoom
 try dsimp only
 repeat' first
  | assumption
  | (with_reducible exact lk_noRoom)
  | (with_reducible exact lk_pure _)
  | split
  | dsimp only
  | intro _
theorem lk_alloc (t : TypeId) (b : Bool) (x : Value) : Lk P F Z (Instr.alloc t b x) := by
 unfold Instr.alloc
 try dsimp only
 repeat' first
  | assumption
  | (with_reducible exact lk_newVar _ _)
  | (with_reducible exact lk_storeVar _ _ _)
  | (with_reducible exact lk_zeroValue _)
  | (with_reducible exact lk_pure _)
  | (with_reducible refine lk_bind ?_ (fun _ => ?_))
  | split
  | dsimp only
  | intro _
theorem lk_box (t : TypeId) (x : Value) : Lk P F Z (Instr.box t x) := by
 unfold Instr.box
 try dsimp only
 repeat' first
  | assumption
  | (with_reducible exact lk_newVar _ _)
  | (with_reducible exact lk_pure _)
  | (with_reducible refine lk_bind ?_ (fun _ => ?_))
  | split
  | dsimp only
  | intro _
theorem lk_ok {s : Sem α} (h : ∀ w v es B, Rel Z w v -> AllClean Z B es -> w.heap.size <= B -> Bad (s.run (strip P F) v) \/ (Alike Z w v (s.run P w) (s.run (strip P F) v) /\ AllClean Z B (s.events P w es))) : Lk P F Z s :=
 ⟨fun w v es B hr hc _ hB => h w v es B hr hc (Nat.le_trans (run_up P s w).size hB)⟩
theorem lk_shape {r : Nat} {k : Option (TypeId × Nat) -> Sem α} (hk : ∀ e n m, k (some (e, n)) = k (some (e, m))) (ih : ∀ s, Lk P F Z (k s)) : Lk P F Z (shape r >>= k) := by
 refine ⟨fun w v es B hr hc ha hB => ?_⟩
 have e : k (v.shape? r) = k (w.shape? r) := by
  have l := hr.look r
  unfold World.shape?
  revert l
  generalize w.heap[r]? = x
  generalize v.heap[r]? = y
  intro l
  cases l with
  | dark _ => exact hk _ _ _
  | @shut o _ h1 _ _ => cases o <;> first | exact absurd trivial h1 | rfl
  | @view o o' h1 h2 => cases o <;> first | exact h1.elim | (cases o' <;> first | exact h2.elim | rfl)
  | same _ => rfl
 have h := (ih (w.shape? r)).ok w v es B hr hc ha hB
 show Bad ((k (v.shape? r)).run (strip P F) v) \/ (Alike Z w v ((k (w.shape? r)).run P w) ((k (v.shape? r)).run (strip P F) v) /\ AllClean Z B ((k (w.shape? r)).events P w es))
 rw [e]
 exact h
theorem run_noView (a : Addr) (w : World) : (noView a).run P w = match w.heap[a.block]? with
  | none => .halt (.stuck "getObj: no such block") w
  | some (.view _ _) => .halt (.unsupported (.unsafePointer "memory seen as another type")) w
  | some _ => .ok () w := by
 cases h : w.heap[a.block]? with
 | none => simp [noView, viewAt, shape, Go.getObj, Sem.run, World.shape?, h]
 | some o => cases o <;> simp [noView, viewAt, shape, Go.getObj, Sem.run, World.shape?, h, unsupported]
theorem ev_noView (a : Addr) (w : World) (es : Array Event) : (noView a).events P w es = match w.heap[a.block]? with
  | none => es
  | some (.cells ..) => es
  | some o => es.push ⟨.obj a.block, false, o.isChan⟩ := by
 cases h : w.heap[a.block]? with
 | none => simp [noView, viewAt, shape, Go.getObj, World.shape?, h, Sem.events, Sem.runT, -Sem.runT_eq, bind, Sem.bind]
 | some o => cases o <;> simp [noView, viewAt, shape, Go.getObj, World.shape?, h, unsupported, Sem.events, Sem.runT, -Sem.runT_eq, bind, Sem.bind, pure]
theorem run_numberAt (r : Nat) (w : World) : (numberAt r).run P w = match w.heap[r]? with
  | none => .halt (.stuck "getObj: no such block") w
  | some (.number a l) => .ok (some (a, l)) w
  | some _ => .ok none w := by
 cases h : w.heap[r]? with
 | none => simp [numberAt, shape, Go.getObj, Sem.run, World.shape?, h]
 | some o => cases o <;> simp [numberAt, shape, Go.getObj, Sem.run, World.shape?, h]
theorem ev_numberAt (r : Nat) (w : World) (es : Array Event) : (numberAt r).events P w es = match w.heap[r]? with
  | none => es
  | some (.cells ..) => es
  | some o => es.push ⟨.obj r, false, o.isChan⟩ := by
 cases h : w.heap[r]? with
 | none => simp [numberAt, shape, Go.getObj, World.shape?, h, Sem.events, Sem.runT, -Sem.runT_eq, bind, Sem.bind]
 | some o => cases o <;> simp [numberAt, shape, Go.getObj, World.shape?, h, Sem.events, Sem.runT, -Sem.runT_eq, bind, Sem.bind, pure]
theorem lk_noView (a : Addr) : Lk P F Z (noView a) := by
 refine lk_ok fun w v es B hr hc hB => ?_
 have l := hr.look a.block
 have hb : ∀ o, w.heap[a.block]? = some o -> a.block < B := fun o ho => Nat.lt_of_lt_of_le (Array.getElem?_eq_some_iff.1 ho).1 hB
 have on := On.refl hr
 rw [run_noView, run_noView, ev_noView]
 revert l hb
 generalize w.heap[a.block]? = x
 generalize v.heap[a.block]? = y
 intro l hb
 cases l with
 | dark _ => exact .inr ⟨⟨rfl, on⟩, hc⟩
 | @shut o _ h1 h2 _ => cases o <;> first | exact absurd trivial h1 | exact absurd trivial h2 | exact .inr ⟨⟨rfl, on⟩, clean_push hc (show Clean Z B ⟨.obj a.block, _, _⟩ from hb _ rfl)⟩
 | @view o o' h1 h2 => cases o <;> first | exact h1.elim | (cases o' <;> first | exact h2.elim | exact .inl trivial)
 | same h1 =>
  cases x with
  | none => exact .inl trivial
  | some o => cases o <;> first | exact absurd trivial (h1 _ rfl).1 | exact .inr ⟨⟨rfl, on⟩, hc⟩ | exact .inr ⟨⟨rfl, on⟩, clean_push hc (show Clean Z B ⟨.obj a.block, _, _⟩ from hb _ rfl)⟩
theorem lk_numberAt (r : Nat) : Lk P F Z (numberAt r) := by
 refine lk_ok fun w v es B hr hc hB => ?_
 have l := hr.look r
 have hb : ∀ o, w.heap[r]? = some o -> r < B := fun o ho => Nat.lt_of_lt_of_le (Array.getElem?_eq_some_iff.1 ho).1 hB
 have on := On.refl hr
 rw [run_numberAt, run_numberAt, ev_numberAt]
 revert l hb
 generalize w.heap[r]? = x
 generalize v.heap[r]? = y
 intro l hb
 cases l with
 | dark _ => exact .inr ⟨⟨rfl, on⟩, hc⟩
 | @shut o _ h1 h2 h3 => cases o <;> first | exact absurd trivial h1 | exact absurd trivial h2 | exact absurd rfl (h3 _ _) | exact .inr ⟨⟨rfl, on⟩, clean_push hc (show Clean Z B ⟨.obj r, _, _⟩ from hb _ rfl)⟩
 | @view o o' h1 h2 => cases o <;> first | exact h1.elim | (cases o' <;> first | exact h2.elim | exact .inr ⟨⟨rfl, on⟩, clean_push hc (show Clean Z B ⟨.obj r, _, _⟩ from hb _ rfl)⟩)
 | same h1 =>
  cases x with
  | none => exact .inl trivial
  | some o => cases o <;> first | exact absurd trivial (h1 _ rfl).1 | exact .inr ⟨⟨rfl, on⟩, hc⟩ | exact .inr ⟨⟨rfl, on⟩, clean_push hc (show Clean Z B ⟨.obj r, _, _⟩ from hb _ rfl)⟩
theorem lk_forInL {γ : Type} (f : γ -> β -> Sem (ForInStep β)) (h : ∀ a b, Lk P F Z (f a b)) : ∀ (l : List γ) (b : β), Lk P F Z (forIn l b f)
 | [], b => by rw [List.forIn_nil]; exact lk_pure _
 | a :: l, b => by
  rw [List.forIn_cons]
  refine lk_bind (h a b) (fun x => ?_)
  cases x with
  | done b => exact lk_pure _
  | yield b => exact lk_forInL f h l b
theorem lk_forInA {γ : Type} {f : γ -> β -> Sem (ForInStep β)} {l : Array γ} {b : β} (h : ∀ a b, Lk P F Z (f a b)) : Lk P F Z (forIn l b f) := by
 rw [<- Array.forIn_toList]; exact lk_forInL f h _ _
theorem lk_forInR {f : Nat -> β -> Sem (ForInStep β)} {r : Std.Legacy.Range} {b : β} (h : ∀ a b, Lk P F Z (f a b)) : Lk P F Z (forIn r b f) := by
 rw [Std.Legacy.Range.forIn_eq_forIn_range']; exact lk_forInL f h _ _
theorem lk_mapML {γ : Type} (f : γ -> Sem β) (h : ∀ a, Lk P F Z (f a)) : ∀ l : List γ, Lk P F Z (l.mapM f)
 | [] => by rw [List.mapM_nil]; exact lk_pure _
 | a :: l => by rw [List.mapM_cons]; exact lk_bind (h a) (fun _ => lk_bind (lk_mapML f h l) (fun _ => lk_pure _))
theorem lk_mapMA {γ : Type} {f : γ -> Sem β} {l : Array γ} (h : ∀ a, Lk P F Z (f a)) : Lk P F Z (l.mapM f) := by
 rw [Array.mapM_eq_mapM_toList]; exact lk_map (lk_mapML f h _)
theorem lk_behindNumber (a : Addr) : Lk P F Z (behindNumber a) := by
 unfold behindNumber
 try dsimp only
 repeat' first
  | assumption
  | (with_reducible exact lk_numberAt _)
  | (with_reducible exact lk_pure _)
  | (with_reducible refine lk_bind ?_ (fun _ => ?_))
  | split
  | dsimp only
  | intro _
end Go.Lift
namespace Go.Lift
variable {α β : Type} {P : Program} {F : Array Func} {Z : Veil}
theorem byteOfCell_strip : ∀ (d : Nat) (e : TypeId) (n : Nat), byteOfCell (strip P F) d e n = byteOfCell P d e n
 | 0, _, _ => rfl
 | d + 1, e, n => by
  have ih : byteOfCell (strip P F) d = byteOfCell P d := funext fun e => funext fun n => byteOfCell_strip d e n
  simp only [byteOfCell, ih]
  rfl
theorem lk_byteOf (a : Addr) : Lk P F Z (byteOf a) := by
 unfold byteOf
 split
 ·exact lk_pure _
 refine lk_program ?_ ?_
 ·simp only [byteOfCell_strip]
  rfl
 repeat' first
  | assumption
  | (with_reducible exact lk_noView _)
  | (with_reducible exact lk_stuck _)
  | (with_reducible exact lk_pure _)
  | (with_reducible refine lk_shape (fun _ _ _ => rfl) (fun _ => ?_))
  | ((with_reducible refine lk_program ?_ ?_); · exact rfl)
  | (with_reducible refine lk_bind ?_ (fun _ => ?_))
  | split
  | dsimp only
  | intro _
theorem lk_partAt (a : Addr) (n m : Nat) : Lk P F Z (partAt a n m) := by
 unfold partAt
 try dsimp only
 repeat' first
  | assumption
  | (with_reducible exact lk_byteOf _)
  | (with_reducible exact lk_pure _)
  | (with_reducible refine lk_bind ?_ (fun _ => ?_))
  | split
  | dsimp only
  | intro _
theorem lk_fieldPlace (a : Addr) (f : Field) : Lk P F Z (fieldPlace a f) := by
 unfold fieldPlace
 try dsimp only
 repeat' first
  | assumption
  | (with_reducible exact lk_partAt _ _ _)
  | (with_reducible exact lk_sizeOf _)
  | (with_reducible exact lk_pure _)
  | (with_reducible refine lk_bind ?_ (fun _ => ?_))
  | split
  | dsimp only
  | intro _
theorem lk_build (t : TypeId) (x : Array (Nat × Value)) : Lk P F Z (Instr.build t x) := by
 unfold Instr.build
 try dsimp only
 repeat' first
  | assumption
  | (with_reducible exact lk_sizeOf _)
  | (with_reducible exact lk_zeroValue _)
  | (with_reducible exact lk_underlying _)
  | (with_reducible exact lk_stuck _)
  | (with_reducible exact lk_pure _)
  | (with_reducible refine lk_mapMA (fun _ => ?_))
  | (with_reducible refine lk_bind ?_ (fun _ => ?_))
  | split
  | dsimp only
  | intro _
theorem lk_buildSlice (t : TypeId) (n : Nat) (x : Array (Nat × Value)) : Lk P F Z (Instr.buildSlice t n x) := by
 unfold Instr.buildSlice
 try dsimp only
 repeat' first
  | assumption
  | (with_reducible exact lk_newRow _ _)
  | (with_reducible exact lk_sizeOf _)
  | (with_reducible exact lk_zeroValue _)
  | (with_reducible exact lk_underlying _)
  | (with_reducible exact lk_uresourceLimit _)
  | (with_reducible exact lk_stuck _)
  | (with_reducible exact lk_pure _)
  | (with_reducible refine lk_bind ?_ (fun _ => ?_))
  | split
  | dsimp only
  | intro _
theorem lk_sureAddr (x : Value) : Lk P F Z (Instr.sureAddr x) := by
 unfold Instr.sureAddr
 try dsimp only
 repeat' first
  | assumption
  | (with_reducible exact lk_stuck _)
  | (with_reducible exact lk_pure _)
  | split
  | dsimp only
  | intro _
theorem lk_loadAt (t : TypeId) (x : Value) : Lk P F Z (Instr.loadAt t x) := by
 unfold Instr.loadAt
 try dsimp only
 repeat' first
  | assumption
  | (with_reducible exact lk_sureAddr _)
  | (with_reducible exact lk_loadVar _ _)
  | (with_reducible refine lk_bind ?_ (fun _ => ?_))
  | split
  | dsimp only
  | intro _
theorem lk_storeAt (t : TypeId) (x y : Value) : Lk P F Z (Instr.storeAt t x y) := by
 unfold Instr.storeAt
 try dsimp only
 repeat' first
  | assumption
  | (with_reducible exact lk_sureAddr _)
  | (with_reducible exact lk_storeVar _ _ _)
  | (with_reducible refine lk_bind ?_ (fun _ => ?_))
  | split
  | dsimp only
  | intro _
theorem lk_fieldAt (t : TypeId) (x : Value) (n : Nat) : Lk P F Z (Instr.fieldAt t x n) := by
 unfold Instr.fieldAt
 try dsimp only
 repeat' first
  | assumption
  | (with_reducible exact lk_sureAddr _)
  | (with_reducible exact lk_fieldPlace _ _)
  | (with_reducible exact lk_underlying _)
  | (with_reducible exact lk_stuck _)
  | (with_reducible exact lk_pure _)
  | (with_reducible refine lk_bind ?_ (fun _ => ?_))
  | split
  | dsimp only
  | intro _
theorem lk_indexAt (t : TypeId) (x y : Value) : Lk P F Z (Instr.indexAt t x y) := by
 unfold Instr.indexAt
 try dsimp only
 repeat' first
  | assumption
  | (with_reducible exact lk_sureAddr _)
  | (with_reducible exact lk_asIntOf _)
  | (with_reducible exact lk_boundsPanic _ _ _ _)
  | (with_reducible exact lk_sizeOf _)
  | (with_reducible exact lk_underlying _)
  | (with_reducible exact lk_unoEntry _)
  | (with_reducible exact lk_stuck _)
  | (with_reducible exact lk_pure _)
  | (with_reducible refine lk_bind ?_ (fun _ => ?_))
  | split
  | dsimp only
  | intro _
theorem lk_sliceBound (x : Value) (n : Nat) (c : BoundsCode) : Lk P F Z (Instr.sliceBound x n c) := by
 unfold Instr.sliceBound
 try dsimp only
 repeat' first
  | assumption
  | (with_reducible exact lk_asIntOf _)
  | (with_reducible exact lk_boundsPanic _ _ _ _)
  | (with_reducible exact lk_pure _)
  | (with_reducible refine lk_bind ?_ (fun _ => ?_))
  | split
  | dsimp only
  | intro _
theorem lk_sliceBounds (b : Bool) (n m : Nat) (x y z : Option Value) : Lk P F Z (Instr.sliceBounds b n m x y z) := by
 unfold Instr.sliceBounds
 try dsimp only
 repeat' first
  | assumption
  | (with_reducible exact lk_sliceBound _ _ _)
  | (with_reducible exact lk_stuck _)
  | (with_reducible exact lk_pure _)
  | (with_reducible refine lk_bind ?_ (fun _ => ?_))
  | split
  | dsimp only
  | intro _
theorem lk_slice (t : TypeId) (x : Value) (l h m : Option Value) : Lk P F Z (Instr.slice t x l h m) := by
 unfold Instr.slice
 try dsimp only
 repeat' first
  | assumption
  | (with_reducible exact lk_sliceBounds _ _ _ _ _ _)
  | (with_reducible exact lk_asAddr _)
  | (with_reducible exact lk_sizeOf _)
  | (with_reducible exact lk_underlying _)
  | (with_reducible exact lk_stuck _)
  | (with_reducible exact lk_pure _)
  | (with_reducible refine lk_bind ?_ (fun _ => ?_))
  | split
  | dsimp only
  | intro _
theorem lk_sliceAt (t : TypeId) (x : Value) (l h m : Option Value) : Lk P F Z (Instr.sliceAt t x l h m) := by
 unfold Instr.sliceAt
 try dsimp only
 repeat' first
  | assumption
  | (with_reducible exact lk_slice _ _ _ _ _)
  | (with_reducible exact lk_sliceBounds _ _ _ _ _ _)
  | (with_reducible exact lk_sureAddr _)
  | (with_reducible exact lk_sizeOf _)
  | (with_reducible exact lk_underlying _)
  | (with_reducible exact lk_pure _)
  | (with_reducible refine lk_bind ?_ (fun _ => ?_))
  | split
  | dsimp only
  | intro _
theorem lk_makeInterface (t : TypeId) (x : Value) : Lk P F Z (Instr.makeInterface t x) := by
 unfold Instr.makeInterface
 try dsimp only
 repeat' first
  | assumption
  | (with_reducible exact lk_underlying _)
  | (with_reducible exact lk_stuck _)
  | (with_reducible exact lk_pure _)
  | (with_reducible refine lk_bind ?_ (fun _ => ?_))
  | split
  | dsimp only
  | intro _
theorem lk_makeFunc (f : Fn) (x y : Array Value) : Lk P F Z (Instr.makeFunc f x y) := by
 unfold Instr.makeFunc
 try dsimp only
 repeat' first
  | assumption
  | (with_reducible exact lk_pure _)
  | split
  | dsimp only
  | intro _
theorem lk_makeMap (t : TypeId) (x : Option Value) : Lk P F Z (Instr.makeMap t x) := by
 unfold Instr.makeMap
 try dsimp only
 repeat' first
  | assumption
  | (with_reducible exact lk_asInt _)
  | (with_reducible exact lk_underlying _)
  | (with_reducible exact lk_newMap _ _)
  | (with_reducible exact lk_stuck _)
  | (with_reducible exact lk_pure _)
  | (with_reducible refine lk_bind ?_ (fun _ => ?_))
  | split
  | dsimp only
  | intro _
theorem lk_makeSlice (t : TypeId) (x y : Value) : Lk P F Z (Instr.makeSlice t x y) := by
 unfold Instr.makeSlice
 try dsimp only
 repeat' first
  | assumption
  | (with_reducible exact lk_askRoom _)
  | (with_reducible exact lk_asInt _)
  | (with_reducible exact lk_runtimePanic _)
  | (with_reducible exact lk_newRow _ _)
  | (with_reducible exact lk_sizeOf _)
  | (with_reducible exact lk_zeroValue _)
  | (with_reducible exact lk_underlying _)
  | (with_reducible exact lk_typeInfo _)
  | (with_reducible exact lk_choose _)
  | (with_reducible exact lk_stuck _)
  | (with_reducible exact lk_pure _)
  | (with_reducible refine lk_bind ?_ (fun _ => ?_))
  | split
  | dsimp only
  | intro _
theorem lk_field (t : TypeId) (x : Value) (n : Nat) : Lk P F Z (Instr.field t x n) := by
 unfold Instr.field
 try dsimp only
 repeat' first
  | assumption
  | (with_reducible exact lk_asAgg _)
  | (with_reducible exact lk_part _ _ _)
  | (with_reducible exact lk_underlying _)
  | (with_reducible exact lk_stuck _)
  | (with_reducible refine lk_bind ?_ (fun _ => ?_))
  | split
  | dsimp only
  | intro _
theorem lk_index (t : TypeId) (x y : Value) : Lk P F Z (Instr.index t x y) := by
 unfold Instr.index
 try dsimp only
 repeat' first
  | assumption
  | (with_reducible exact lk_asIntOf _)
  | (with_reducible exact lk_boundsPanic _ _ _ _)
  | (with_reducible exact lk_part _ _ _)
  | (with_reducible exact lk_sizeOf _)
  | (with_reducible exact lk_underlying _)
  | (with_reducible exact lk_stuck _)
  | (with_reducible exact lk_pure _)
  | (with_reducible refine lk_bind ?_ (fun _ => ?_))
  | split
  | dsimp only
  | intro _
theorem lk_extract (x : Value) (n : Nat) : Lk P F Z (Instr.extract x n) := by
 unfold Instr.extract
 try dsimp only
 repeat' first
  | assumption
  | (with_reducible exact lk_stuck _)
  | (with_reducible exact lk_pure _)
  | split
  | dsimp only
  | intro _
theorem lk_typeAssert (x : Value) (t u : TypeId) (b : Bool) : Lk P F Z (Instr.typeAssert x t u b) := by
 unfold Instr.typeAssert
 try dsimp only
 repeat' first
  | assumption
  | (with_reducible exact lk_runtimePanic _)
  | (with_reducible exact lk_zeroValue _)
  | (with_reducible exact lk_underlying _)
  | (with_reducible exact lk_typeInfo _)
  | (with_reducible exact lk_stuck _)
  | (with_reducible exact lk_pure _)
  | (with_reducible refine lk_bind ?_ (fun _ => ?_))
  | split
  | dsimp only
  | intro _
end Go.Lift
