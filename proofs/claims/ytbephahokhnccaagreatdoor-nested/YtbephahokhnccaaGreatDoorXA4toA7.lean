import Derived.Test.YtbephahokhnccaaGreatDoorXA1toA3
namespace Go.Lift
section
variable {α β : Type} {P : Program} {F : Array Func} {Z : Veil}
abbrev strip (P : Program) (F : Array Func) : Program:={ P with funcs:=F }
structure Lk {α : Type} (P : Program) (F : Array Func) (Z : Veil) (s : Sem α) : Prop where
 ok : Lock P (strip P F) Z s
theorem lkz {p : Prop} (h : p:=by
 repeat' first
  | assumption
  | (with_reducible first
     | exact Ap _
     | exact Aq _
     | exact Ex _
     | exact Mq _
     | exact Cs _
     | exact F4 _
     | exact Wu _ _
     | exact Ai4 _
     | exact Ju _
     | exact Vt _ _
     | exact Ka _ _ _
     | exact Aja _ _ _
     | exact Ae8 _ _
     | exact Ae6 _ _
     | exact Ue _
     | exact Abm _
     | exact Be _
     | exact Jz _
     | exact F9
     | exact Aby _
     | exact Ae5
     | exact Za _ _ _
     | exact Wm _
     | exact Zd _
     | exact Ae4 _
     | exact Uf _
     | exact Ae3 _ _ _
     | exact Y8 _
     | exact Kz _ _
     | exact Ke _ _
     | exact Rv _ _ _ _
     | exact Sg _ _ _
     | exact Rj _ _ _ _ _ _
     | exact Np _
     | exact Aiv _ _ _ _ _
     | exact Fy _
     | exact Ae9 _ _
     | exact Abw _
     | exact Ajd _
     | exact Jk _ _ _
     | exact Ze _ _
     | exact Afg _
     | exact Ou _ _
     | exact Q4 _ _ _ _
     | exact Kc _ _ _ _
     | exact Abo _ _ _
     | exact Ox _ _ _ _
     | exact Pj _ _
     | exact Ae0 _ _ _
     | exact Aez _ _ _
     | exact Abc _ _ _ _ _
     | exact Abj _ _ _ _
     | exact Zh _ _ _ _
     | exact Sm _ _ _
     | exact Ai3 _
     | exact Mc _ _ _ _
     | exact Ws _ _
     | exact Zl _ _
     | exact L6 _ _ _ _
     | exact Sc _ _ _ _
     | exact I5 _
     | exact Mo _
     | exact Wo _ _
     | exact Sl _ _ _ _
     | exact Zj _ _ _ _
     | exact Ug _
     | exact Pk _ _ _
     | exact Alv _ _
     | exact Alr _ _
     | exact Alw _ _
     | exact Ww _ _ _ _ _
     | exact Als _ _
     | exact Aol _ _ _ _
     | exact Zc _ _ _ _
     | exact Abg _ _ _ _
     | exact Alu _ _ _
     | exact Jd _ _ _ _
     | exact Wx _ _ _ _ _ _
     | exact Ab0 _ _ _
     | exact Ab1 _ _ _
     | exact Abz _ _ _
     | exact Pi _ _ _
     | exact Rt _ _ _
     | exact Y9 _ _ _
     | exact Afe _ _ _
     | exact Aiw _ _ _ _ _
     | exact Afd _ _ _ _
     | exact Ya _ _ _
     | exact Zb _ _ _ _ _ _
     | exact Iz _ _
     | exact Y6 _ _ _ _ _
     | exact Aae _ _
     | exact Kb _ _ _ _
     | exact Nl _ _ _
     | exact Abn _
     | exact Rp _ _
     | exact Kv _
     | exact Ae2 _
     | exact N9 _ _
     | exact Abl _
     | exact Aff _
     | exact Abt _
     | exact Ac8 _
     | exact Nj _ _
     | exact Ov _
     | exact Aoh _ _ _
     | exact Aiu _
     | exact Ji _
     | exact Ai8 _
     | exact Ni _
     | exact Sj _ _
     | exact Afi _ _
     | exact Fw _ _
     | exact Qy _
     | exact Lm _)
  | (with_reducible refine Aix (fun _ _ _=>rfl) (fun _=>?_))
  | (with_reducible refine Jy (fun _ _=>?_))
  | (with_reducible refine Jv (fun _ _=>?_))
  | (with_reducible refine X9 (fun _=>?_))
  | ((with_reducible refine Ca ?_ ?_); · exact pk1)
  | ((with_reducible refine Ca ?_ ?_); · exact pk2)
  | ((with_reducible refine Ca ?_ ?_); · exact st1)
  | ((with_reducible refine Ca ?_ ?_); · exact eg1)
  | ((with_reducible refine Ca ?_ ?_); · exact eg2)
  | (with_reducible refine Ii ?_ ?_)
  | ((with_reducible refine Ca ?_ ?_); · exact rfl)
  | (with_reducible refine Uc ?_ ?_)
  | ((with_reducible refine Ir (fun _ _=>?_) ?_) <;> exact fun _=>trivial)
  | (with_reducible refine Ao ?_ (fun _=>?_))
  | (with_reducible refine Ahf ?_)
  | split
  | dsimp only
  | intro _
 ) : p:=h
theorem Ao {x : Sem α} {f : α -> Sem β} (hx : Lk P F Z x) (hf : ∀ a,Lk P F Z (f a)) : Lk P F Z (x >>= f):=⟨Ua hx.ok fun a=>(hf a).ok⟩
theorem Ahf {x : Sem α} {f : α -> β} (hx : Lk P F Z x) : Lk P F Z (Functor.map f x):=⟨Ua hx.ok (fun _=>Ch _)⟩
theorem Aq (a : α) : Lk P F Z (pure a : Sem α):=⟨Ch a⟩
theorem Uc {r : Nat} {f : Obj -> Sem α} (ih : ∀ o,¬ Dw o -> Lk P F Z (f o)) (hd : ∀ o,Off o -> Hm (strip P F) (f o)) : Lk P F Z (getObj r >>= f):=⟨Ot (k:=f) (fun o ho _=>(ih o ho).ok) hd⟩
theorem Q3 {r : Nat} {f : Obj -> Sem α} (ih : ∀ o,¬ Dw o -> Hl Z o -> Lk P F Z (f o)) (hd : ∀ o,Off o -> Hm (strip P F) (f o)) : Lk P F Z (getObj r >>= f):=⟨Ot (k:=f) (fun o ho hf=>(ih o ho hf).ok) hd⟩
theorem Ca {f : Program -> Sem α} (he : f P = f (strip P F)) (ih : Lk P F Z (f (strip P F))) : Lk P F Z (program >>= f):=⟨Wl (k:=f) he ih.ok⟩
theorem Aja (c : Array Value) (e : TypeId) (f : Nat × Nat) : Lk P F Z (newObj (.cells c e f)):=⟨Gs ⟨id,trivial⟩ (fun r=>Ch r)⟩
theorem Ae9 (es : Array MapEntry) (n : Nat) : Lk P F Z (newObj (.map es n)):=⟨Gs ⟨id,trivial⟩ (fun r=>Ch r)⟩
theorem Q0 (m : Option Nat) (a : Nat) (s : Array Nat) (b : Nat) : Lk P F Z (newObj (.mapIter m a s b)):=⟨Gs ⟨id,trivial⟩ (fun r=>Ch r)⟩
theorem Ae7 (s : ByteArray) (n : Nat) : Lk P F Z (newObj (.stringIter s n)):=⟨Gs ⟨id,trivial⟩ (fun r=>Ch r)⟩
theorem Ae0 (r : Nat) (es : Array MapEntry) (n : Nat) : Lk P F Z (setObj r (.map es n)):=⟨F3 ⟨id,trivial⟩ id (fun e=>by cases e) (Ch ())⟩
theorem Abc (r : Nat) (m : Option Nat) (a : Nat) (s : Array Nat) (b : Nat) : Lk P F Z (setObj r (.mapIter m a s b)):=⟨F3 ⟨id,trivial⟩ id (fun e=>by cases e) (Ch ())⟩
theorem Aez (r : Nat) (s : ByteArray) (n : Nat) : Lk P F Z (setObj r (.stringIter s n)):=⟨F3 ⟨id,trivial⟩ id (fun e=>by cases e) (Ch ())⟩
theorem Jz (q : Question) : Lk P F Z (choose q):=⟨Y5 (fun n=>Ch n)⟩
theorem Vt (a : Addr) (m : Mode) : Lk P F Z (load a m):=⟨Tz (fun x=>Ch x)⟩
theorem Ait (a : Addr) (x : Value) (m : Mode) : Lk P F Z (store a x m):=⟨Aa7 (Ch ())⟩
theorem Afg (a : Addr) : Lk P F Z (frozen a):=⟨Y4 (fun b=>Ch b)⟩
theorem Ae5 : Lk P F Z (mark .noRoom):=⟨Ty (.inr rfl) (Ch ())⟩
theorem Ir {f : Obj -> Sem α} (h : ∀ a u,Hm (strip P F) (f (.view a u))) (h' : Hm (strip P F) (f (.coro none))) : ∀ o,Off o -> Hm (strip P F) (f o):=by
 rintro o (ho | rfl)
 ·cases o <;> first | exact ho.elim | exact h _ _
 ·exact h'
theorem Ap (s : String) : Lk P F Z (stuck s : Sem α):=⟨Fp _ (.inr trivial)⟩
theorem A7 (u : Unsupported) (h : ∀ g,u ≠ .initOrder g:=by first | assumption | (intro g hg; cases hg)) : Lk P F Z (unsupported u : Sem α):=⟨Fp _ (.inl (by cases u <;> first | exact trivial | exact absurd rfl (h _)))⟩
theorem F4 (s : String) : Lk P F Z (unsupported (.noEntry s) : Sem α):=⟨Fp _ (.inl trivial)⟩
theorem Mo (s : String) : Lk P F Z (unsupported (.unsafePointer s) : Sem α):=⟨Fp _ (.inl trivial)⟩
theorem Mq (s : String) : Lk P F Z (unsupported (.resourceLimit s) : Sem α):=⟨Fp _ (.inl trivial)⟩
theorem F9 : Lk P F Z (unsupported .addressObserved : Sem α):=⟨Fp _ (.inl trivial)⟩
theorem Abm (x : Value) : Lk P F Z (goPanic x : Sem α):=⟨Fp _ (.inl trivial)⟩
theorem Ex (t : TypeId) : Lk P F Z (typeInfo t):=by
 unfold typeInfo
 exact lkz
theorem Cs (t : TypeId) : Lk P F Z (underlying t):=by
 unfold underlying
 exact lkz
theorem Wm (t : TypeId) : Lk P F Z (zeroValue t):=by
 unfold zeroValue
 exact lkz
theorem Ju (t : TypeId) : Lk P F Z (sizeOf t):=by
 unfold sizeOf
 exact lkz
theorem Ai4 (t : TypeId) : Lk P F Z (isAgg t):=by
 unfold isAgg
 exact lkz
theorem Kv (t : TypeId) : Lk P F Z (typeStr t):=by
 unfold typeStr
 exact lkz
theorem Ue (t : TypeId) : Lk P F Z (elemOf t):=by
 unfold elemOf
 exact lkz
theorem Ib (a : Addr) : ∀ (n i : Nat) (acc : Array Value),Lk P F Z (loadCellsFrom a i n acc)
 | 0,_,_=>Aq _
 | n + 1,_,_=>Ao (Vt _ _) (fun _=>Ib a n _ _)
theorem Wu (a : Addr) (n : Nat) : Lk P F Z (loadCells a n):=Ib a n 0 #[]
theorem Ka (a : Addr) : ∀ (vs : List Value) (i : Nat),Lk P F Z (storeCells a vs i)
 | [],_=>Aq _
 | _ :: rest,_=>Ao (Ait _ _ _) (fun _=>Ka a rest _)
theorem Kz (t : TypeId) (a : Addr) : Lk P F Z (loadVar t a):=by
 unfold loadVar
 try dsimp only
 exact lkz
theorem Za (t : TypeId) (a : Addr) (x : Value) : Lk P F Z (storeVar t a x):=by
 unfold storeVar
 try dsimp only
 exact lkz
theorem Ae8 (t : TypeId) (c : Array Value) : Lk P F Z (newRow t c):=by
 unfold newRow
 try dsimp only
 exact lkz
theorem Ae6 (t : TypeId) (x : Value) : Lk P F Z (newVar t x):=by
 unfold newVar
 try dsimp only
 exact lkz
theorem Jk (t : TypeId) (c : Array Value) (n : Nat) : Lk P F Z (part t c n):=by
 unfold part
 try dsimp only
 exact lkz
theorem Be (e : RuntimeError) : Lk P F Z (runtimePanic e : Sem α):=by
 unfold runtimePanic
 try dsimp only
 exact lkz
theorem Rv (k : IntKind) (x y : Int) (c : BoundsCode) : Lk P F Z (boundsPanic k x y c : Sem α):=by
 unfold boundsPanic
 try dsimp only
 exact lkz
theorem Aby (x : Value) : Lk P F Z (asIntOf x):=by
 unfold asIntOf
 try dsimp only
 exact lkz
theorem Fy (x : Value) : Lk P F Z (asInt x):=by
 unfold asInt
 try dsimp only
 exact lkz
theorem Ug (x : Value) : Lk P F Z (asBool x):=by
 unfold asBool
 try dsimp only
 exact lkz
theorem Ajd (x : Value) : Lk P F Z (asAgg x):=by
 unfold asAgg
 try dsimp only
 exact lkz
theorem Np (x : Value) : Lk P F Z (asAddr x):=by
 unfold asAddr
 try dsimp only
 exact lkz
theorem Abw (n : Nat) : Lk P F Z (askRoom n):=by
 unfold askRoom
 try dsimp only
 exact lkz
theorem Aje (t : TypeId) (b : Bool) (x : Value) : Lk P F Z (Instr.alloc t b x):=by
 unfold Instr.alloc
 try dsimp only
 exact lkz
theorem Aom (t : TypeId) (x : Value) : Lk P F Z (Instr.box t x):=by
 unfold Instr.box
 try dsimp only
 exact lkz
theorem Xj {s : Sem α} (h : ∀ w v es B,Rel Z w v -> Cg Z B es -> w.heap.size <= B -> Bad (s.run (strip P F) v) \/ (Alike Z w v (s.run P w) (s.run (strip P F) v) /\ Cg Z B (s.events P w es))) : Lk P F Z s :=
 ⟨fun w v es B hr hc _ hB=>h w v es B hr hc (Nat.le_trans (Ec P s w).size hB)⟩
theorem Aix {r : Nat} {k : Option (TypeId × Nat) -> Sem α} (hk : ∀ e n m,k (some (e,n)) = k (some (e,m))) (ih : ∀ s,Lk P F Z (k s)) : Lk P F Z (shape r >>= k):=by
 refine ⟨fun w v es B hr hc ha hB=>?_⟩
 have e : k (v.shape? r) = k (w.shape? r):=by
  have l:=hr.look r
  unfold World.shape?
  revert l
  generalize w.heap[r]? = x
  generalize v.heap[r]? = y
  intro l
  cases l with
  | dark _=>exact hk _ _ _
  | @shut o _ h1 _ _=>cases o <;> first | exact absurd trivial h1 | rfl
  | @view o o' h1 h2=>cases o <;> first | exact h1.elim | (cases o' <;> first | exact h2.elim | rfl)
  | same _=>rfl
 have h:=(ih (w.shape? r)).ok w v es B hr hc ha hB
 show Bad ((k (v.shape? r)).run (strip P F) v) \/ (Alike Z w v ((k (w.shape? r)).run P w) ((k (v.shape? r)).run (strip P F) v) /\ Cg Z B ((k (w.shape? r)).events P w es))
 rw [e]
 exact h
theorem Qr (a : Addr) (w : World) : (noView a).run P w = match w.heap[a.block]? with
  | none=>.halt (.stuck "getObj: no such block") w
  | some (.view _ _)=>.halt (.unsupported (.unsafePointer "memory seen as another type")) w
  | some _=>.ok () w:=by
 cases h : w.heap[a.block]? with
 | none=>simp [noView,viewAt,shape,Go.getObj,Sem.run,World.shape?,h]
 | some o=>cases o <;> simp [noView,viewAt,shape,Go.getObj,Sem.run,World.shape?,h,unsupported]
theorem Af5 (a : Addr) (w : World) (es : Array Event) : (noView a).events P w es = match w.heap[a.block]? with
  | none=>es
  | some (.cells ..)=>es
  | some o=>es.push ⟨.obj a.block,false,o.isChan⟩:=by
 cases h : w.heap[a.block]? with
 | none=>simp [noView,viewAt,shape,Go.getObj,World.shape?,h,Sem.events,Sem.runT,-Sem.runT_eq,bind,Sem.bind]
 | some o=>cases o <;> simp [noView,viewAt,shape,Go.getObj,World.shape?,h,unsupported,Sem.events,Sem.runT,-Sem.runT_eq,bind,Sem.bind,pure]
theorem Lu (r : Nat) (w : World) : (numberAt r).run P w = match w.heap[r]? with
  | none=>.halt (.stuck "getObj: no such block") w
  | some (.number a l)=>.ok (some (a,l)) w
  | some _=>.ok none w:=by
 cases h : w.heap[r]? with
 | none=>simp [numberAt,shape,Go.getObj,Sem.run,World.shape?,h]
 | some o=>cases o <;> simp [numberAt,shape,Go.getObj,Sem.run,World.shape?,h]
theorem Zq (r : Nat) (w : World) (es : Array Event) : (numberAt r).events P w es = match w.heap[r]? with
  | none=>es
  | some (.cells ..)=>es
  | some o=>es.push ⟨.obj r,false,o.isChan⟩:=by
 cases h : w.heap[r]? with
 | none=>simp [numberAt,shape,Go.getObj,World.shape?,h,Sem.events,Sem.runT,-Sem.runT_eq,bind,Sem.bind]
 | some o=>cases o <;> simp [numberAt,shape,Go.getObj,World.shape?,h,Sem.events,Sem.runT,-Sem.runT_eq,bind,Sem.bind,pure]
theorem Ae4 (a : Addr) : Lk P F Z (noView a):=by
 refine Xj fun w v es B hr hc hB=>?_
 have l:=hr.look a.block
 have hb : ∀ o,w.heap[a.block]? = some o -> a.block < B:=fun o ho=>Nat.lt_of_lt_of_le (Array.getElem?_eq_some_iff.1 ho).1 hB
 have on:=On.refl hr
 rw [Qr,Qr,Af5]
 revert l hb
 generalize w.heap[a.block]? = x
 generalize v.heap[a.block]? = y
 intro l hb
 cases l with
 | dark _=>exact .inr ⟨⟨rfl,on⟩,hc⟩
 | @shut o _ h1 h2 _=>cases o <;> first | exact absurd trivial h1 | exact absurd trivial h2 | exact .inr ⟨⟨rfl,on⟩,Cu hc (show Clean Z B ⟨.obj a.block,_,_⟩ from hb _ rfl)⟩
 | @view o o' h1 h2=>cases o <;> first | exact h1.elim | (cases o' <;> first | exact h2.elim | exact .inl trivial)
 | same h1 =>
  cases x with
  | none=>exact .inl trivial
  | some o=>cases o <;> first | exact absurd trivial (h1 _ rfl).1 | exact .inr ⟨⟨rfl,on⟩,hc⟩ | exact .inr ⟨⟨rfl,on⟩,Cu hc (show Clean Z B ⟨.obj a.block,_,_⟩ from hb _ rfl)⟩
theorem Zd (r : Nat) : Lk P F Z (numberAt r):=by
 refine Xj fun w v es B hr hc hB=>?_
 have l:=hr.look r
 have hb : ∀ o,w.heap[r]? = some o -> r < B:=fun o ho=>Nat.lt_of_lt_of_le (Array.getElem?_eq_some_iff.1 ho).1 hB
 have on:=On.refl hr
 rw [Lu,Lu,Zq]
 revert l hb
 generalize w.heap[r]? = x
 generalize v.heap[r]? = y
 intro l hb
 cases l with
 | dark _=>exact .inr ⟨⟨rfl,on⟩,hc⟩
 | @shut o _ h1 h2 h3=>cases o <;> first | exact absurd trivial h1 | exact absurd trivial h2 | exact absurd rfl (h3 _ _) | exact .inr ⟨⟨rfl,on⟩,Cu hc (show Clean Z B ⟨.obj r,_,_⟩ from hb _ rfl)⟩
 | @view o o' h1 h2=>cases o <;> first | exact h1.elim | (cases o' <;> first | exact h2.elim | exact .inr ⟨⟨rfl,on⟩,Cu hc (show Clean Z B ⟨.obj r,_,_⟩ from hb _ rfl)⟩)
 | same h1 =>
  cases x with
  | none=>exact .inl trivial
  | some o=>cases o <;> first | exact absurd trivial (h1 _ rfl).1 | exact .inr ⟨⟨rfl,on⟩,hc⟩ | exact .inr ⟨⟨rfl,on⟩,Cu hc (show Clean Z B ⟨.obj r,_,_⟩ from hb _ rfl)⟩
theorem Nk {γ : Type} (f : γ -> β -> Sem (ForInStep β)) (h : ∀ a b,Lk P F Z (f a b)) : ∀ (l : List γ) (b : β),Lk P F Z (forIn l b f)
 | [],b=>by rw [List.forIn_nil]; exact Aq _
 | a :: l,b=>by
  rw [List.forIn_cons]
  refine Ao (h a b) (fun x=>?_)
  cases x with
  | done b=>exact Aq _
  | yield b=>exact Nk f h l b
theorem Jy {γ : Type} {f : γ -> β -> Sem (ForInStep β)} {l : Array γ} {b : β} (h : ∀ a b,Lk P F Z (f a b)) : Lk P F Z (forIn l b f):=by
 rw [<- Array.forIn_toList]; exact Nk f h _ _
theorem Jv {f : Nat -> β -> Sem (ForInStep β)} {r : Std.Legacy.Range} {b : β} (h : ∀ a b,Lk P F Z (f a b)) : Lk P F Z (forIn r b f):=by
 rw [Std.Legacy.Range.forIn_eq_forIn_range']; exact Nk f h _ _
theorem X8 {γ : Type} (f : γ -> Sem β) (h : ∀ a,Lk P F Z (f a)) : ∀ l : List γ,Lk P F Z (l.mapM f)
 | []=>by rw [List.mapM_nil]; exact Aq _
 | a :: l=>by rw [List.mapM_cons]; exact Ao (h a) (fun _=>Ao (X8 f h l) (fun _=>Aq _))
theorem X9 {γ : Type} {f : γ -> Sem β} {l : Array γ} (h : ∀ a,Lk P F Z (f a)) : Lk P F Z (l.mapM f):=by
 rw [Array.mapM_eq_mapM_toList]; exact Ahf (X8 f h _)
theorem I5 (a : Addr) : Lk P F Z (behindNumber a):=by
 unfold behindNumber
 try dsimp only
 exact lkz
end
section
variable {α β : Type} {P : Program} {F : Array Func} {Z : Veil}
theorem Fs : ∀ (d : Nat) (e : TypeId) (n : Nat),byteOfCell (strip P F) d e n = byteOfCell P d e n
 | 0,_,_=>rfl
 | d + 1,e,n=>by
  have ih : byteOfCell (strip P F) d = byteOfCell P d:=funext fun e=>funext fun n=>Fs d e n
  simp only [byteOfCell,ih]
  rfl
theorem Uf (a : Addr) : Lk P F Z (byteOf a):=by
 unfold byteOf
 split
 ·exact Aq _
 refine Ca ?_ ?_
 ·simp only [Fs]
  rfl
 exact lkz
theorem Ae3 (a : Addr) (n m : Nat) : Lk P F Z (partAt a n m):=by
 unfold partAt
 try dsimp only
 exact lkz
theorem Ke (a : Addr) (f : Field) : Lk P F Z (fieldPlace a f):=by
 unfold fieldPlace
 try dsimp only
 exact lkz
theorem Ajb (t : TypeId) (x : Array (Nat × Value)) : Lk P F Z (Instr.build t x):=by
 unfold Instr.build
 try dsimp only
 exact lkz
theorem Sn (t : TypeId) (n : Nat) (x : Array (Nat × Value)) : Lk P F Z (Instr.buildSlice t n x):=by
 unfold Instr.buildSlice
 try dsimp only
 exact lkz
theorem Y8 (x : Value) : Lk P F Z (Instr.sureAddr x):=by
 unfold Instr.sureAddr
 try dsimp only
 exact lkz
theorem Afc (t : TypeId) (x : Value) : Lk P F Z (Instr.loadAt t x):=by
 unfold Instr.loadAt
 try dsimp only
 exact lkz
theorem Aba (t : TypeId) (x y : Value) : Lk P F Z (Instr.storeAt t x y):=by
 unfold Instr.storeAt
 try dsimp only
 exact lkz
theorem Abp (t : TypeId) (x : Value) (n : Nat) : Lk P F Z (Instr.fieldAt t x n):=by
 unfold Instr.fieldAt
 try dsimp only
 exact lkz
theorem Abk (t : TypeId) (x y : Value) : Lk P F Z (Instr.indexAt t x y):=by
 unfold Instr.indexAt
 try dsimp only
 exact lkz
theorem Sg (x : Value) (n : Nat) (c : BoundsCode) : Lk P F Z (Instr.sliceBound x n c):=by
 unfold Instr.sliceBound
 try dsimp only
 exact lkz
theorem Rj (b : Bool) (n m : Nat) (x y z : Option Value) : Lk P F Z (Instr.sliceBounds b n m x y z):=by
 unfold Instr.sliceBounds
 try dsimp only
 exact lkz
theorem Aiv (t : TypeId) (x : Value) (l h m : Option Value) : Lk P F Z (Instr.slice t x l h m):=by
 unfold Instr.slice
 try dsimp only
 exact lkz
theorem Abb (t : TypeId) (x : Value) (l h m : Option Value) : Lk P F Z (Instr.sliceAt t x l h m):=by
 unfold Instr.sliceAt
 try dsimp only
 exact lkz
theorem Oa (t : TypeId) (x : Value) : Lk P F Z (Instr.makeInterface t x):=by
 unfold Instr.makeInterface
 try dsimp only
 exact lkz
theorem Zf (f : Fn) (x y : Array Value) : Lk P F Z (Instr.makeFunc f x y):=by
 unfold Instr.makeFunc
 try dsimp only
 exact lkz
theorem Abi (t : TypeId) (x : Option Value) : Lk P F Z (Instr.makeMap t x):=by
 unfold Instr.makeMap
 try dsimp only
 exact lkz
theorem Wt (t : TypeId) (x y : Value) : Lk P F Z (Instr.makeSlice t x y):=by
 unfold Instr.makeSlice
 try dsimp only
 exact lkz
theorem Ai6 (t : TypeId) (x : Value) (n : Nat) : Lk P F Z (Instr.field t x n):=by
 unfold Instr.field
 try dsimp only
 exact lkz
theorem Ai5 (t : TypeId) (x y : Value) : Lk P F Z (Instr.index t x y):=by
 unfold Instr.index
 try dsimp only
 exact lkz
theorem Abq (x : Value) (n : Nat) : Lk P F Z (Instr.extract x n):=by
 unfold Instr.extract
 try dsimp only
 exact lkz
theorem Sd (x : Value) (t u : TypeId) (b : Bool) : Lk P F Z (Instr.typeAssert x t u b):=by
 unfold Instr.typeAssert
 try dsimp only
 exact lkz
end
section
variable {α β : Type} {P : Program} {F : Array Func} {Z : Veil}
def O5 (w : World) (a : Addr) : Bool:=w.frozen? a || (match w.shape? a.block with
 | some (_,n)=>w.frozen? { block:=a.block,off:=n }
 | none=>false)
def Agq (w : World) (a : Addr) : Bool:=match w.shape? a.block with
 | some (_,0)=>true
 | _=>false
theorem J8 (a : Addr) (w : World) : (stringish a).run P w = .ok (O5 w a) w:=by
 unfold stringish O5
 cases h : w.frozen? a with
 | true=>simp [frozen,Sem.run,h]
 | false =>
  cases hs : w.shape? a.block with
  | none=>simp [frozen,shape,Sem.run,h,hs]
  | some x=>obtain ⟨e,n⟩:=x; simp [frozen,shape,Sem.run,h,hs]
theorem Xc (a : Addr) (w : World) (es : Array Event) : (stringish a).events P w es = es:=by
 unfold stringish
 cases h : w.frozen? a with
 | true=>simp [frozen,Sem.events,Sem.runT,-Sem.runT_eq,bind,Sem.bind,h,pure]
 | false =>
  cases hs : w.shape? a.block with
  | none=>simp [frozen,shape,Sem.events,Sem.runT,-Sem.runT_eq,bind,Sem.bind,h,hs,pure]
  | some x=>obtain ⟨e,n⟩:=x; simp [frozen,shape,Sem.events,Sem.runT,-Sem.runT_eq,bind,Sem.bind,h,hs]
theorem Lv (a b : Addr) (w : World) : (mayBeOne a b).run P w = .ok ((O5 w a && O5 w b) || (O5 w a && Agq w a) || (O5 w b && Agq w b)) w:=by
 unfold mayBeOne
 simp only [Sem.run_bind,J8,Result.andThen_ok,shape,Sem.run]
 rfl
theorem Zr (a b : Addr) (w : World) (es : Array Event) : (mayBeOne a b).events P w es = es:=by
 unfold mayBeOne
 simp only [Sem.events_bind,Xc,J8,Result.evThen_ok,shape,Sem.run_bind,Sem.run,Result.andThen_ok]
 rfl
theorem Ti {w v : World} (h : Rel Z w v) (a : Addr) : O5 v a = O5 w a /\ (O5 w a = true -> Agq v a = Agq w a):=by
 have hf:=fun x=>h.frozen x
 have l:=h.look a.block
 unfold O5 Agq
 simp only [hf]
 unfold World.shape? World.frozen?
 dsimp only
 revert l
 generalize w.heap[a.block]? = x
 generalize v.heap[a.block]? = y
 intro l
 cases l with
 | dark _=>simp
 | @shut o _ h1 _ _=>cases o <;> first | exact absurd trivial h1 | exact ⟨rfl,fun _=>rfl⟩
 | @view o o' h1 h2=>cases o <;> first | exact h1.elim | (cases o' <;> first | exact h2.elim | exact ⟨rfl,fun _=>rfl⟩)
 | same _=>exact ⟨rfl,fun _=>rfl⟩
theorem Ze (a b : Addr) : Lk P F Z (mayBeOne a b):=by
 refine Xj fun w v es B hr hc hB=>?_
 rw [Lv,Lv,Zr]
 refine .inr ⟨⟨?_,.refl hr⟩,hc⟩
 obtain ⟨a1,a2⟩:=Ti hr a
 obtain ⟨b1,b2⟩:=Ti hr b
 rw [a1,b1]
 cases ha : O5 w a <;> cases hb : O5 w b <;> simp [ha,hb] at a2 b2 ⊢
 ·rw [b2]
 ·rw [a2]
theorem Ou (a b : Addr) : Lk P F Z (sameAddr a b):=by
 unfold sameAddr
 try dsimp only
 exact lkz
theorem Rk (a b : Option Addr) : Lk P F Z (samePointer a b):=by
 unfold samePointer
 try dsimp only
 exact lkz
theorem O4 : ∀ (d : Nat) (t u : TypeId),(strip P F).alikeButTags d t u = P.alikeButTags d t u
 | 0,_,_=>rfl
 | d + 1,t,u=>by
  have ih : (strip P F).alikeButTags d = P.alikeButTags d:=funext fun t=>funext fun u=>O4 d t u
  simp only [Program.alikeButTags,ih]
  try rfl
theorem Ml (d : Nat) : (strip P F).alikeButTags d = P.alikeButTags d:=funext fun t=>funext fun u=>O4 d t u
theorem Gf (t : TypeId) : (strip P F).packed t = P.packed t:=by
 simp only [Program.packed,Program.packedAs,Ml]
 rfl
theorem Ff : ∀ (d : Nat) (t : TypeId),(strip P F).holdsPacked d t = P.holdsPacked d t
 | 0,_=>rfl
 | d + 1,t=>by
  have ih : (strip P F).holdsPacked d = P.holdsPacked d:=funext fun t=>Ff d t
  simp only [Program.holdsPacked,ih,Gf]
  rfl
theorem Fe (t : TypeId) : (strip P F).stoodInHeld t = P.stoodInHeld t:=by
 simp only [Program.stoodInHeld,Program.stoodInAs,Ml]
 rfl
theorem Ha : (strip P F).depth = P.depth:=rfl
theorem Hf : ∀ (d : Nat) (t : TypeId),(strip P F).eqGuardType d t = P.eqGuardType d t
 | 0,_=>rfl
 | d + 1,t=>by
  have ih : (strip P F).eqGuardType d = P.eqGuardType d:=funext fun t=>Hf d t
  simp only [Program.eqGuardType,ih]
  rfl
theorem pk1 {t : TypeId} {A B : Sem α} : (program >>= fun q=>if P.holdsPacked q.depth t = true then A else B) = (program >>= fun q=>if (strip P F).holdsPacked q.depth t = true then A else B):=by simp only [Ff]
theorem pk2 {t : TypeId} {A B : Sem α} : (if (strip P F).holdsPacked P.depth t = true then A else B) = (if (strip P F).holdsPacked (strip P F).depth t = true then A else B):=by rw [Ha (P:=P) (F:=F)]
theorem st1 {t : TypeId} {A B : Sem α} : (if P.stoodInHeld t = true then A else B) = (if (strip P F).stoodInHeld t = true then A else B):=by rw [Fe (P:=P) (F:=F)]
theorem eg1 {t : TypeId} {A B : Sem α} : (program >>= fun q=>if (!P.eqGuardType q.depth t) = true then A else B) = (program >>= fun q=>if (!(strip P F).eqGuardType q.depth t) = true then A else B):=by simp only [Hf]
theorem eg2 {t : TypeId} {A B : Sem α} : (if (!(strip P F).eqGuardType P.depth t) = true then A else B) = (if (!(strip P F).eqGuardType (strip P F).depth t) = true then A else B):=by rw [Ha (P:=P) (F:=F)]
theorem Q4 : ∀ (d : Nat) (t : TypeId) (x y : Value),Lk P F Z (Op.equalIn d t x y)
 | 0,_,_,_=>A7 _
 | d + 1,t,x,y=>by
  have ih:=Q4 d
  unfold Op.equalIn
  repeat' first
   | assumption
   | (with_reducible exact ih _ _ _)
   | (with_reducible exact Rk _ _)
   | (with_reducible exact Ou _ _)
   | (with_reducible exact Uf _)
   | (with_reducible exact I5 _)
   | (with_reducible exact Be _)
   | (with_reducible exact Jk _ _ _)
   | (with_reducible exact Kv _)
   | (with_reducible exact Ju _)
   | (with_reducible exact Cs _)
   | (with_reducible exact Ex _)
   | (with_reducible exact Jz _)
   | (with_reducible exact F9)
   | (with_reducible exact F4 _)
   | (with_reducible exact Ap _)
   | (with_reducible exact Aq _)
   | (with_reducible refine Jy (fun _ _=>?_))
   | (with_reducible refine Jv (fun _ _=>?_))
   | ((with_reducible refine Ca ?_ ?_); · exact pk1)
   | ((with_reducible refine Ca ?_ ?_); · exact pk2)
   | ((with_reducible refine Ca ?_ ?_); · exact st1)
   | ((with_reducible refine Ca ?_ ?_); · exact rfl)
   | (with_reducible refine Ao ?_ (fun _=>?_))
   | split
   | dsimp only
   | intro _
theorem Ya (t : TypeId) (x y : Value) : Lk P F Z (Op.equal t x y):=by
 unfold Op.equal
 try dsimp only
 exact lkz
theorem Mc : ∀ (d : Nat) (t : TypeId) (x y : Value),Lk P F Z (Op.eqGuardIn d t x y)
 | 0,_,_,_=>A7 _
 | d + 1,t,x,y=>by
  have ih:=Mc d
  unfold Op.eqGuardIn
  repeat' first
   | assumption
   | (with_reducible exact ih _ _ _)
   | (with_reducible exact Jk _ _ _)
   | (with_reducible exact Ju _)
   | (with_reducible exact Cs _)
   | (with_reducible exact Aq _)
   | (with_reducible refine Jy (fun _ _=>?_))
   | (with_reducible refine Jv (fun _ _=>?_))
   | (with_reducible refine Ao ?_ (fun _=>?_))
   | split
   | dsimp only
   | intro _
theorem Ox (b : Bool) : ∀ (d : Nat) (t : TypeId) (x : Value),Lk P F Z (Instr.checkKey b d t x)
 | 0,_,_=>A7 _
 | d + 1,t,x=>by
  have ih:=Ox b d
  unfold Instr.checkKey
  repeat' first
   | assumption
   | (with_reducible exact ih _ _)
   | (with_reducible exact Be _)
   | (with_reducible exact Jk _ _ _)
   | (with_reducible exact Kv _)
   | (with_reducible exact Ju _)
   | (with_reducible exact Cs _)
   | (with_reducible exact Ex _)
   | (with_reducible exact Ap _)
   | (with_reducible exact Aq _)
   | (with_reducible refine Jy (fun _ _=>?_))
   | (with_reducible refine Jv (fun _ _=>?_))
   | (with_reducible refine Ao ?_ (fun _=>?_))
   | split
   | dsimp only
   | intro _
theorem Kc (t : TypeId) (x : Value) : ∀ (l : List MapEntry) (i : Nat),Lk P F Z (Instr.findAsking t x l i)
 | [],_=>Aq _
 | e :: l,i=>by
  have ih:=Kc t x l
  unfold Instr.findAsking
  repeat' first
   | assumption
   | (with_reducible exact ih _)
   | (with_reducible exact Ya _ _ _)
   | (with_reducible exact Aq _)
   | (with_reducible refine Ao ?_ (fun _=>?_))
   | split
   | dsimp only
   | intro _
end
section
variable {α β : Type} {P : Program} {F : Array Func} {Z : Veil}
theorem Abo (t : TypeId) (x : Value) (l : List MapEntry) : Lk P F Z (Instr.findKey t x l):=by
 unfold Instr.findKey
 try dsimp only
 exact lkz
theorem Afb (t : TypeId) (x y : Value) (b : Bool) : Lk P F Z (Instr.lookup t x y b):=by
 unfold Instr.lookup
 try dsimp only
 exact lkz
theorem Pj (x y : Value) : Lk P F Z (Instr.keyThatStays x y):=by
 unfold Instr.keyThatStays
 try dsimp only
 exact lkz
theorem L9 (t : TypeId) (x y z : Value) : Lk P F Z (Instr.mapUpdate t x y z):=by
 unfold Instr.mapUpdate
 try dsimp only
 exact lkz
theorem Afk {x : Sem α} {f : α -> Sem β} {Q : α -> Prop} (hx : Lk P F Z x) (hq : ∀ w a w',x.run (strip P F) w = .ok a w' -> Q a) (hf : ∀ a,Q a -> Lk P F Z (f a)) : Lk P F Z (x >>= f):=by
 refine ⟨fun w v es B hr hc ha hB=>?_⟩
 by_cases hv : ∃ a v',x.run (strip P F) v = .ok a v'
 ·obtain ⟨a,v',hv⟩:=hv
  have hqa:=hq v a v' hv
  show Bad ((x.bind f).run (strip P F) v) \/ (Alike Z w v ((x.bind f).run P w) ((x.bind f).run (strip P F) v) /\ Cg Z B ((x.bind f).events P w es))
  have ha' : Agree w v (wOf ((x.bind f).run P w)).drawn:=ha
  have hB' : (wOf ((x.bind f).run P w)).heap.size <= B:=hB
  rw [Sem.run_bind'] at ha' hB'
  rw [Sem.run_bind',Sem.run_bind',Sem.events_bind']
  have hup : (wOf (x.run P w)).drawn <= (wOf ((x.run P w).andThen fun a w'=>(f a).run P w')).drawn /\ (wOf (x.run P w)).heap.size <= (wOf ((x.run P w).andThen fun a w'=>(f a).run P w')).heap.size:=by
   cases x.run P w with
   | ok a w'=>exact ⟨(Ec P (f a) w').drawn,(Ec P (f a) w').size⟩
   | halt h w'=>exact ⟨Nat.le_refl _,Nat.le_refl _⟩
  have h:=hx.ok w v es B hr hc (ha'.less hup.1) (Nat.le_trans hup.2 hB')
  clear hup ha hB
  rw [hv] at h ⊢
  revert ha' hB' h
  cases hw : x.run P w with
  | ok b w' =>
   intro ha hB h
   rcases h with h | ⟨⟨rfl,hon⟩,hcl⟩
   ·exact h.elim
   ·exact ((hf b hqa).ok w' v' _ B hon.rel hcl (Agree.on hon ha) hB).imp id (fun t=>⟨t.1.on hon,t.2⟩)
  | halt k w' =>
   intro _ _ h
   rcases h with h | ⟨h,_⟩
   ·exact h.elim
   ·exact h.elim
 ·show Bad ((x.bind f).run (strip P F) v) \/ (Alike Z w v ((x.bind f).run P w) ((x.bind f).run (strip P F) v) /\ Cg Z B ((x.bind f).events P w es))
  have ha' : Agree w v (wOf ((x.bind f).run P w)).drawn:=ha
  have hB' : (wOf ((x.bind f).run P w)).heap.size <= B:=hB
  rw [Sem.run_bind'] at ha' hB'
  rw [Sem.run_bind',Sem.run_bind',Sem.events_bind']
  have hup : (wOf (x.run P w)).drawn <= (wOf ((x.run P w).andThen fun a w'=>(f a).run P w')).drawn /\ (wOf (x.run P w)).heap.size <= (wOf ((x.run P w).andThen fun a w'=>(f a).run P w')).heap.size:=by
   cases x.run P w with
   | ok a w'=>exact ⟨(Ec P (f a) w').drawn,(Ec P (f a) w').size⟩
   | halt h w'=>exact ⟨Nat.le_refl _,Nat.le_refl _⟩
  have h:=hx.ok w v es B hr hc (ha'.less hup.1) (Nat.le_trans hup.2 hB')
  cases hvr : x.run (strip P F) v with
  | ok a v'=>exact absurd ⟨a,v',hvr⟩ hv
  | halt k v' =>
   rw [hvr] at h
   revert h
   cases hw : x.run P w with
   | ok b w' =>
    intro h
    rcases h with h | ⟨h,_⟩
    ·exact .inl h
    ·exact h.elim
   | halt k' w' =>
    intro h
    rcases h with h | ⟨⟨rfl,ho,hon⟩,hcl⟩
    ·exact .inl h
    ·exact .inr ⟨⟨rfl,ho,hon⟩,hcl⟩
theorem Qn (s : String) (f : α -> Sem β) : ((stuck s : Sem α) >>= f) = stuck s:=rfl
theorem Aiy (t : TypeId) (x : Value) : Lk P F Z (Instr.range t x):=by
 unfold Instr.range
 refine Ao (Cs _) (fun d=>?_)
 split
 ·simp only [pure_bind]
  exact Ao (Ae7 _ _) (fun _=>Aq _)
 ·simp only [pure_bind]
  exact Ao (Q0 _ _ _ _) (fun _=>Aq _)
 ·dsimp only
  refine Uc (fun o _=>?_) (Ir (fun _ _=>?_) ?_)
  ·cases o <;> first
    | (simp only [Qn]; exact Ap _)
    | (simp only [pure_bind]; exact Ao (Q0 _ _ _ _) (fun _=>Aq _))
  ·exact fun _=>trivial
  ·exact fun _=>trivial
 ·simp only [Qn]; exact Ap _
theorem Aln (x : Value) (b : Bool) (t : TypeId) : Lk P F Z (Instr.next x b t):=by
 unfold Instr.next
 try dsimp only
 exact lkz
theorem Ai7 (x : Value) : Lk P F Z (Instr.entry x):=by
 unfold Instr.entry
 try dsimp only
 exact lkz
theorem Zh (o : BinOp) (k : IntKind) (x y : Int) : Lk P F Z (Op.intArith o k x y):=by
 unfold Op.intArith
 try dsimp only
 exact lkz
theorem Afd (o : BinOp) (k : IntKind) (x y : Int) : Lk P F Z (Op.intDiv o k x y):=by
 unfold Op.intDiv
 try dsimp only
 exact lkz
theorem Abj (o : BinOp) (k : IntKind) (x y : Int) : Lk P F Z (Op.intBits o k x y):=by
 unfold Op.intBits
 try dsimp only
 exact lkz
theorem Aiw (o : BinOp) (k : IntKind) (x : Int) (l : IntKind) (y : Int) : Lk P F Z (Op.shift o k x l y):=by
 unfold Op.shift
 try dsimp only
 exact lkz
theorem Afe (o : BinOp) (x y : Int) : Lk P F Z (Op.intCmp o x y):=by
 unfold Op.intCmp
 try dsimp only
 exact lkz
theorem Y9 (o : BinOp) (x y : ByteArray) : Lk P F Z (Op.stringOp o x y):=by
 unfold Op.stringOp
 try dsimp only
 exact lkz
theorem Air (o : UnOp) (x : Value) : Lk P F Z (Op.unary o x):=by
 unfold Op.unary
 try dsimp only
 exact lkz
theorem Sl (o : BinOp) (k : FloatKind) (x y : Nat) : Lk P F Z (Op.floatArith o k x y):=by
 unfold Op.floatArith
 try dsimp only
 exact lkz
theorem Zj (o : BinOp) (k : FloatKind) (x y : Nat) : Lk P F Z (Op.floatCmp o k x y):=by
 unfold Op.floatCmp
 try dsimp only
 exact lkz
theorem Ai3 (x : Value) : Lk P F Z (Builtin.lenOf x):=by
 unfold Builtin.lenOf
 try dsimp only
 exact lkz
theorem Aok (t : Array TypeId) (u : TypeId) (x : Array Value) : Lk P F Z (Builtin.len_ t u x):=by
 unfold Builtin.len_
 try dsimp only
 exact lkz
theorem Sm (n m : Nat) (x : Value) : Lk P F Z (Builtin.firstCells n m x):=by
 unfold Builtin.firstCells
 try dsimp only
 exact lkz
theorem Alt (t : Array TypeId) (u : TypeId) (x : Array Value) : Lk P F Z (Builtin.copy_ t u x):=by
 unfold Builtin.copy_
 try dsimp only
 exact lkz
theorem Abr (o : BinOp) (t : TypeId) (x y : Operand) (a b : Value) : Lk P F Z (eqGuard o t x y a b):=by
 unfold eqGuard
 try dsimp only
 exact lkz
end
end Go.Lift
