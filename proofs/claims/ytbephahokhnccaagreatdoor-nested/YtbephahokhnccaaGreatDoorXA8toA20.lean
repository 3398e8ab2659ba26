import Derived.Test.YtbephahokhnccaaGreatDoorXA4toA7
set_option maxHeartbeats 4000000
namespace Go.Lift
section
variable {α β : Type} {P : Program} {F : Array Func} {Z : Veil}
theorem Qq (r : Nat) (w : World) : ∃ x,(viewAt r).run P w = (match w.heap[r]? with
  | none=>.halt (.stuck "getObj: no such block") w
  | some _=>.ok x w) /\ (x.isSome = match w.heap[r]? with | some (.view ..)=>true | _=>false):=by
 cases h : w.heap[r]? with
 | none=>exact ⟨none,by simp [viewAt,shape,Go.getObj,Sem.run,World.shape?,h],rfl⟩
 | some o=>cases o <;> first | exact ⟨none,by simp [viewAt,shape,Go.getObj,Sem.run,World.shape?,h],rfl⟩ | exact ⟨some (_,_),by simp [viewAt,shape,Go.getObj,Sem.run,World.shape?,h]; exact ⟨rfl,rfl⟩,rfl⟩
theorem Af4 (r : Nat) (w : World) (es : Array Event) : (viewAt r).events P w es = match w.heap[r]? with
  | none=>es
  | some (.cells ..)=>es
  | some o=>es.push ⟨.obj r,false,o.isChan⟩:=by
 cases h : w.heap[r]? with
 | none=>simp [viewAt,shape,Go.getObj,World.shape?,h,Sem.events,Sem.runT,-Sem.runT_eq,bind,Sem.bind]
 | some o=>cases o <;> simp [viewAt,shape,Go.getObj,World.shape?,h,Sem.events,Sem.runT,-Sem.runT_eq,bind,Sem.bind,pure]
theorem Y7 {r : Nat} {f : Bool -> Sem α} (h : ∀ b,Lk P F Z (f b)) : Lk P F Z (viewAt r >>= fun x=>f x.isSome):=by
 refine ⟨fun w v es B hr hc ha hB=>?_⟩
 have l:=hr.look r
 have hb : ∀ o,w.heap[r]? = some o -> r < B:=fun o ho=>Nat.lt_of_lt_of_le (Array.getElem?_eq_some_iff.1 ho).1 (Nat.le_trans (Ec P _ w).size hB)
 show Bad (((viewAt r).bind fun x=>f x.isSome).run (strip P F) v) \/ (Alike Z w v (((viewAt r).bind fun x=>f x.isSome).run P w) (((viewAt r).bind fun x=>f x.isSome).run (strip P F) v) /\ Cg Z B (((viewAt r).bind fun x=>f x.isSome).events P w es))
 have ha' : Agree w v (wOf (((viewAt r).bind fun x=>f x.isSome).run P w)).drawn:=ha
 have hB' : (wOf (((viewAt r).bind fun x=>f x.isSome).run P w)).heap.size <= B:=hB
 rw [Sem.run_bind'] at ha' hB'
 rw [Sem.run_bind',Sem.run_bind',Sem.events_bind',Af4]
 obtain ⟨x,ex,ix⟩:=Qq (P:=P) r w
 obtain ⟨y,ey,iy⟩:=Qq (P:=strip P F) r v
 rw [ex] at ha' hB'
 rw [ex,ey]
 revert l hb ha' hB' ix iy
 clear ex ey ha hB
 generalize w.heap[r]? = p
 generalize v.heap[r]? = q
 intro l hb hB ha ix iy
 cases l with
 | dark _ =>
  have e : y.isSome = x.isSome:=by rw [ix,iy]
  simp only [Result.andThen_ok,Result.evThen_ok,e] at ha hB ⊢
  exact (h x.isSome).ok w v es B hr hc ha hB
 | @shut o _ h1 h2 _ =>
  have e : y.isSome = x.isSome:=by rw [ix,iy]; cases o <;> first | exact absurd trivial h2 | rfl
  cases o <;> first
   | exact absurd trivial h1
   | exact absurd trivial h2
   | (simp only [Result.andThen_ok,Result.evThen_ok,e] at ha hB ⊢
      exact (h x.isSome).ok w v _ B hr (Cu hc (show Clean Z B ⟨.obj r,_,_⟩ from hb _ rfl)) ha hB)
 | @view o o' h1 h2 =>
  cases o <;> first | exact h1.elim | skip
  cases o' <;> first | exact h2.elim | skip
  have e : y.isSome = x.isSome:=by rw [ix,iy]
  simp only [Result.andThen_ok,Result.evThen_ok,e] at ha hB ⊢
  exact (h x.isSome).ok w v _ B hr (Cu hc (show Clean Z B ⟨.obj r,_,_⟩ from hb _ rfl)) ha hB
 | same h1 =>
  cases p with
  | none=>exact .inl trivial
  | some o =>
   have e : y.isSome = x.isSome:=by rw [ix,iy]
   cases o <;> first
    | (simp only [Result.andThen_ok,Result.evThen_ok,e] at ha hB ⊢
       exact (h x.isSome).ok w v es B hr hc ha hB)
    | (simp only [Result.andThen_ok,Result.evThen_ok,e] at ha hB ⊢
       exact (h x.isSome).ok w v _ B hr (Cu hc (show Clean Z B ⟨.obj r,_,_⟩ from hb _ rfl)) ha hB)
theorem Aey {r : Nat} {k : Option (TypeId × Nat) -> Sem α} (hk : ∀ e,Hm (strip P F) (k (some (e,0)))) (ih : ∀ s,Lk P F Z (k s)) : Lk P F Z (shape r >>= k):=by
 refine ⟨fun w v es B hr hc ha hB=>?_⟩
 have h:=(ih (w.shape? r)).ok w v es B hr hc ha hB
 show Bad ((k (v.shape? r)).run (strip P F) v) \/ (Alike Z w v ((k (w.shape? r)).run P w) ((k (v.shape? r)).run (strip P F) v) /\ Cg Z B ((k (w.shape? r)).events P w es))
 have l:=hr.look r
 have e : (∃ e,v.shape? r = some (e,0)) \/ v.shape? r = w.shape? r:=by
  unfold World.shape?
  revert l
  generalize w.heap[r]? = x
  generalize v.heap[r]? = y
  intro l
  cases l with
  | dark _=>exact .inl ⟨_,rfl⟩
  | @shut o _ h1 _ _=>cases o <;> first | exact absurd trivial h1 | exact .inr rfl
  | @view o o' h1 h2=>cases o <;> first | exact h1.elim | (cases o' <;> first | exact h2.elim | exact .inr rfl)
  | same _=>exact .inr rfl
 rcases e with ⟨e,he⟩ | he
 ·left; rw [he]; exact hk e v
 ·rw [he]; exact h
theorem Ws (a : Addr) (l : Bool) : Lk P F Z (newObj (.number a l)):=⟨Gs ⟨id,trivial⟩ (fun r=>Ch r)⟩
theorem Ie : ∀ (d : Nat) (e : TypeId) (n : Nat),cellOfByte (strip P F) d e n = cellOfByte P d e n
 | 0,_,_=>rfl
 | d + 1,e,n=>by
  have ih : cellOfByte (strip P F) d = cellOfByte P d:=funext fun e=>funext fun n=>Ie d e n
  simp only [cellOfByte,ih]
  rfl
theorem Mr (d : Nat) (e : TypeId) (c o : Nat) (b : Int) : cellAtBytes (strip P F) d e c o b = cellAtBytes P d e c o b:=by
 simp only [cellAtBytes,Fs,Ie]
 rfl
theorem Oc (d : Nat) (e : TypeId) (o : Nat) (b : Int) (hb : 0 <= b) : cellAtBytes P d e 0 o b = none:=by
 unfold cellAtBytes
 simp only [Nat.zero_mul,bind,Option.bind]
 split
 ·rfl
 ·split
  ·rfl
  ·rename_i here _
   have : (decide (Int.ofNat (o / P.cellsOf e * P.bytesOf e + here) + b < 0) || decide (Int.ofNat (o / P.cellsOf e * P.bytesOf e + here) + b ≥ Int.ofNat 0)) = true:=by
    simp only [Bool.or_eq_true,decide_eq_true_eq]
    right
    have : (0 : Int) <= Int.ofNat (o / P.cellsOf e * P.bytesOf e + here):=Int.natCast_nonneg _
    show (0 : Int) <= _
    omega
   simp only [this,if_true]
end
section
variable {α β : Type} {P : Program} {F : Array Func} {Z : Veil}
theorem Aew {r : Nat} {A B : Sem α} (hA : Lk P F Z A) (hB : Lk P F Z B) : Lk P F Z (viewAt r >>= fun x=>if x.isSome = true then A else B) :=
 Y7 (f:=fun b=>if b = true then A else B) (fun b=>by cases b <;> assumption)
theorem L6 (t : Array TypeId) (u : TypeId) (p : Option Addr) (y : Value) : Lk P F Z (Builtin.unsafeAdd_ t u #[.pointer p,y]):=by
 unfold Builtin.unsafeAdd_
 dsimp only
 refine Ao (Fy _) (fun n=>?_)
 split
 ·split
  ·exact Aew (Ao (A7 _) (fun _=>Aq _)) (Aq _)
  ·exact A7 _
 ·rename_i h0
  split
  ·exact A7 _
  ·rename_i hn
   split
   ·refine Aey (fun e v=>?_) (fun s=>?_)
    ·dsimp only
     simp only [Sem.run_bind,program,Sem.run,Result.andThen_ok,Nat.zero_div,Oc _ _ _ n (by omega)]
     trivial
    ·split
     ·refine Ca ?_ ?_
      ·simp only [Mr]
       rfl
      ·split
       ·exact Aq _
       ·exact A7 _
     ·exact A7 _
   ·exact A7 _
theorem Sc (t : Array TypeId) (u : TypeId) (x y : Value) : Lk P F Z (Builtin.unsafeAdd_ t u #[x,y]):=by
 cases x <;> first | exact L6 _ _ _ _ | exact Ap _
theorem Zl (a : Addr) (b : Bool) : Lk P F Z (asNumber a b):=by
 unfold asNumber
 try dsimp only
 exact lkz
theorem Rt (t : TypeId) (x y : Value) : Lk P F Z (movedNumber t x y):=by
 unfold movedNumber
 try dsimp only
 exact lkz
theorem Pi (t : TypeId) (x y : Value) : Lk P F Z (movedPointer t x y):=by
 unfold movedPointer
 try dsimp only
 exact lkz
theorem Wo (a b : Addr) : Lk P F Z (Op.twoPlaces a b):=by
 unfold Op.twoPlaces
 try dsimp only
 exact lkz
theorem Abz (k : IntKind) (a b : Addr) : Lk P F Z (Op.addrSub k a b):=by
 unfold Op.addrSub
 try dsimp only
 exact lkz
theorem Ab1 (o : BinOp) (a b : Addr) : Lk P F Z (Op.addrCmp o a b):=by
 unfold Op.addrCmp
 try dsimp only
 exact lkz
theorem Ab0 (k : IntKind) (a : Addr) (n : Int) : Lk P F Z (Op.addrMod k a n):=by
 unfold Op.addrMod
 try dsimp only
 exact lkz
theorem Pk (k : FloatKind) (n : Nat) (l : FloatKind) : Lk P F Z (Conv.floatToFloat k n l):=by
 unfold Conv.floatToFloat
 try dsimp only
 exact lkz
theorem Jd (o : BinOp) (k : FloatKind) (x y : Nat) : Lk P F Z (Op.Complex.arith o k x y):=by
 unfold Op.Complex.arith
 try dsimp only
 exact lkz
theorem Aol (o : BinOp) (k : FloatKind) (x y : Nat) : Lk P F Z (Op.Complex.cmp o k x y):=by
 unfold Op.Complex.cmp
 try dsimp only
 exact lkz
theorem Alu (k : FloatKind) (x : Nat) (l : FloatKind) : Lk P F Z (Op.Complex.conv k x l):=by
 unfold Op.Complex.conv
 try dsimp only
 exact lkz
theorem Alw (x y : Nat) : Lk P F Z (Op.Complex.add x y):=Jd _ _ _ _
theorem Alr (x y : Nat) : Lk P F Z (Op.Complex.sub x y):=Jd _ _ _ _
theorem Alv (x y : Nat) : Lk P F Z (Op.Complex.mul x y):=Jd _ _ _ _
theorem Als (x y : Nat) : Lk P F Z (Op.Complex.quo x y):=Jd _ _ _ _
theorem Abg (a b c d : Nat) : Lk P F Z (Op.Complex.product a b c d):=by
 unfold Op.Complex.product
 try dsimp only
 exact lkz
theorem Ww (s a b c d : Nat) : Lk P F Z (Op.Complex.corrected s a b c d):=by
 unfold Op.Complex.corrected
 try dsimp only
 exact lkz
theorem Zc (a b c d : Nat) : Lk P F Z (Op.Complex.quotient a b c d):=by
 unfold Op.Complex.quotient
 try dsimp only
 exact lkz
theorem Wx (o : BinOp) (k : FloatKind) (a b c d : Nat) : Lk P F Z (Op.complexOp o k a b c d):=by
 unfold Op.complexOp
 try dsimp only
 exact lkz
theorem Ajc (o : BinOp) (t : TypeId) (x y : Value) : Lk P F Z (binOp o t x y):=by
 unfold binOp
 try dsimp only
 exact lkz
end
section
variable {α β : Type} {P : Program} {F : Array Func} {Z : Veil}
theorem Ii {c : Prop} [Decidable c] {x y : Sem α} (hx : Lk P F Z x) (hy : Lk P F Z y) : Lk P F Z (if c then x else y):=by
 by_cases h : c
 ·rw [if_pos h]; exact hx
 ·rw [if_neg h]; exact hy
def R8 (P : Program) (s : Sem α) : Prop:=∀ w,∃ r,s.run P w = .ok r w /\ ∀ es,s.events P w es = es
theorem H5 (a : α) : R8 P (pure a : Sem α):=fun _=>⟨a,rfl,fun _=>rfl⟩
theorem Agi (r : Nat) : R8 P (shape r):=fun w=>⟨w.shape? r,rfl,fun _=>rfl⟩
theorem Ace (a : Addr) : R8 P (frozen a):=fun w=>⟨w.frozen? a,rfl,fun _=>rfl⟩
theorem H6 {x : Sem α} {f : α -> Sem β} (hx : R8 P x) (hf : ∀ a,R8 P (f a)) : R8 P (x >>= f):=by
 intro w
 obtain ⟨r,h1,h2⟩:=hx w
 obtain ⟨r',k1,k2⟩:=hf r w
 exact ⟨r',by rw [Sem.run_bind,h1]; exact k1,fun es=>by rw [Sem.events_bind,h1,h2]; exact k2 es⟩
theorem Uz (a : Addr) (n : Nat) : R8 P (Builtin.holdsCells a n):=by
 unfold Builtin.holdsCells
 refine H6 (Agi _) (fun s=>?_)
 split <;> exact H5 _
theorem Agh (a b c : Nat) (d : Option Addr) (x : Value) : R8 P (Builtin.mayShare a b c d x):=by
 have fin : ∀ t : Bool,R8 P (if (!t) = true then (pure true : Sem Bool) else
    match x with
    | Value.slice (some q) _ _=>do
     let r <- Builtin.holdsCells q (c * a)
     pure (!r || Option.any (fun x=>x.block == q.block) d)
    | _=>pure false):=by
  intro t
  split
  ·exact H5 _
  ·split
   ·exact H6 (Uz _ _) (fun _=>H5 _)
   ·exact H5 _
 unfold Builtin.mayShare
 dsimp only
 split
 ·exact H6 (H5 _) fin
 ·exact H6 (Uz _ _) (fun _=>H6 (Ace _) (fun _=>H6 (H5 _) fin))
theorem Abx {x : Sem α} {f : α -> Sem β} {h : Halt} (hh : Vk h) (hx : ∀ R : Program,R8 R x) (hf : ∀ (R : Program) a w,(f a).run R w = .halt h w) (he : ∀ a w es B,Cg Z B es -> Cg Z B ((f a).events P w es)) : Lk P F Z (x >>= f):=by
 refine Xj fun w v es B hr hc hB=>?_
 obtain ⟨r,h1,h2⟩:=hx P w
 obtain ⟨r',k1,_⟩:=hx (strip P F) v
 rw [Sem.run_bind,Sem.run_bind,Sem.events_bind,h1,k1,h2]
 simp only [Result.andThen_ok,Result.evThen_ok,hf]
 exact .inr ⟨⟨rfl,hh,.refl hr⟩,he r w es B hc⟩
theorem Zb (a b c : Nat) (d : Option Addr) (x : Value) (s : String) : Lk P F Z (Builtin.mayShare a b c d x >>= fun r=>if (!r) = true then (mark .noRoom >>= fun _=>(unsupported (.resourceLimit s) : Sem α)) else unsupported (.resourceLimit s)):=by
 refine Abx (h:=.unsupported (.resourceLimit s)) trivial (fun R=>Agh _ _ _ _ _) (fun R r w=>?_) (fun r w es B hc=>?_)
 ·cases r <;> rfl
 ·cases r
  ·exact Cu hc (show Clean Z B ⟨.mark .noRoom,_,_⟩ from .inr rfl)
  ·exact hc
theorem Afl (t : Array TypeId) (u : TypeId) (x : Array Value) : Lk P F Z (Builtin.append_ t u x):=by
 unfold Builtin.append_
 try dsimp only
 exact lkz
end
section
variable {α β : Type} {P : Program} {F : Array Func} {Z : Veil}
theorem Zg {a : Addr} {m : Mode} {k : Value -> Sem α} (ih : ¬ Z a.block -> ∀ x,Lk P F Z (k x)) : Lk P F Z (load a m >>= k):=by
 refine ⟨fun w v es B hr hc ha hB=>?_⟩
 by_cases hz : Z a.block
 ·have hl:=hr.look a.block
  rcases hr.ways a.block with ⟨⟨e,h1⟩,_⟩ | h1 | ⟨o',h1,h2⟩ | ⟨h1,h2,h3⟩
  ·obtain ⟨e1,e2,_⟩:=Lr (Q:=strip P F) h1 (m == .atomic)
   left
   show Bad ((Sem.load m a k).run (strip P F) v)
   simp only [Sem.run,e1,e2]; trivial
  ·obtain ⟨e1,e2,_⟩:=P9 (Q:=strip P F) h1 (m == .atomic)
   left
   show Bad ((Sem.load m a k).run (strip P F) v)
   simp only [Sem.run,e1,e2]; trivial
  ·obtain ⟨e1,s,e2⟩:=Rc (Q:=strip P F) (m:=m == .atomic) h1 h2
   left
   show Bad ((Sem.load m a k).run (strip P F) v)
   simp only [Sem.run,e1,e2]; trivial
  ·have hn : ∀ x,w.cell? a ≠ some x:=fun x hx=>let ⟨o,x1,x2⟩:=K4 hx; h3 o x1 x2 hz
   have hnw : w.cell? a = none:=by
    cases hx : w.cell? a with
    | none=>rfl
    | some x=>exact absurd hx (hn x)
   left
   show Bad ((Sem.load m a k).run (strip P F) v)
   simp only [Sem.run,Nw h1,hnw,Js (w:=v) (P:=strip P F) (h1 ▸ h2),Iy (Z:=Z) (fun o ho=>⟨h2 o (h1 ▸ ho),hr.code _ o ho⟩)]
   trivial
 ·exact (Tz (k:=k) (fun x=>(ih hz x).ok)) w v es B hr hc ha hB
theorem Ud {a : Addr} {n : Nat} (hz : ¬ Z a.block) : Lk P F Z (freeze a n):=by
 refine Xj fun w v es B hr hc hB=>?_
 show Bad (Result.ok () (v.freeze a n)) \/ (Alike Z w v (Result.ok () (w.freeze a n)) (Result.ok () (v.freeze a n)) /\ Cg Z B es)
 refine .inr ⟨⟨rfl,?_⟩,hc⟩
 unfold World.freeze
 split
 ·exact .refl hr
 ·exact ⟨hr.modify hz (fun o ho=>by cases o <;> first | rfl | exact absurd trivial ho) (fun o ho=>by cases o <;> first | exact trivial | exact ho.elim),rfl,rfl,Nat.le_refl _,by simp,by show v.drawn = v.drawn + (w.drawn - w.drawn); omega,.modify hr (fun o ho=>by cases o <;> first | rfl | exact absurd trivial ho) (fun o ho=>by cases o <;> first | exact trivial | exact ho.elim)⟩
theorem Ma : ∀ (n : Nat) (a : Addr) (acc : ByteArray),Lk P F Z (loadBytes a acc n)
 | 0,_,_=>Aq _
 | n + 1,a,acc=>by
  unfold loadBytes
  refine Ao (Vt _ _) (fun x=>?_)
  split
  ·exact Ma n _ _
  ·exact Ap _
theorem Ru (n m : Nat) (a : Addr) (acc : ByteArray) : Lk P F Z (loadBytes a acc (n + 1) >>= fun s=>freeze a m >>= fun _=>pure (Value.string s)):=by
 unfold loadBytes
 rw [bind_assoc]
 refine Zg (fun hz x=>?_)
 split
 ·exact Ao (Ma _ _ _) (fun _=>Ao (Ud hz) (fun _=>Aq _))
 ·exact Ap _
theorem Wq {r : Nat} {k : Option (TypeId × Nat) -> Sem α} (hk : ∀ e (v : World),v.heap[r]? = some (.cells #[] e) -> Bad ((k (some (e,0))).run (strip P F) v)) (ih : ∀ s,Lk P F Z (k s)) : Lk P F Z (shape r >>= k):=by
 refine ⟨fun w v es B hr hc ha hB=>?_⟩
 have h:=(ih (w.shape? r)).ok w v es B hr hc ha hB
 show Bad ((k (v.shape? r)).run (strip P F) v) \/ (Alike Z w v ((k (w.shape? r)).run P w) ((k (v.shape? r)).run (strip P F) v) /\ Cg Z B ((k (w.shape? r)).events P w es))
 have l:=hr.look r
 have e : (∃ e,v.heap[r]? = some (.cells #[] e) /\ v.shape? r = some (e,0)) \/ v.shape? r = w.shape? r:=by
  unfold World.shape?
  revert l
  generalize w.heap[r]? = x
  generalize v.heap[r]? = y
  intro l
  cases l with
  | dark _=>exact .inl ⟨_,rfl,rfl⟩
  | @shut o _ h1 _ _=>cases o <;> first | exact absurd trivial h1 | exact .inr rfl
  | @view o o' h1 h2=>cases o <;> first | exact h1.elim | (cases o' <;> first | exact h2.elim | exact .inr rfl)
  | same _=>exact .inr rfl
 rcases e with ⟨e,h1,he⟩ | he
 ·left; rw [he]; exact hk e v h1
 ·rw [he]; exact h
theorem H9 : ∀ (d : Nat) (t u : TypeId),sameLayout (strip P F) d t u = sameLayout P d t u
 | 0,_,_=>rfl
 | d + 1,t,u=>by
  have ih : sameLayout (strip P F) d = sameLayout P d:=funext fun t=>funext fun u=>H9 d t u
  simp only [sameLayout,ih,Fe (P:=P) (F:=F)]
  rfl
theorem Oo (f : TypeId -> Bool) : ∀ (d : Nat) (e : TypeId) (a b c : Nat),rowAt (strip P F) f d e a b c = rowAt P f d e a b c
 | 0,_,_,_,_=>rfl
 | d + 1,e,a,b,c=>by
  have ih : rowAt (strip P F) f d = rowAt P f d:=funext fun e=>funext fun a=>funext fun b=>funext fun c=>Oo f d e a b c
  simp only [rowAt,ih,Fe (P:=P) (F:=F)]
  rfl
theorem Me : ∀ (d : Nat) (e : TypeId) (a b : Nat) (u : TypeId) (n : Nat),liesAt (strip P F) d e a b u n = liesAt P d e a b u n
 | 0,_,_,_,_,_=>rfl
 | d + 1,e,a,b,u,n=>by
  have ih : liesAt (strip P F) d = liesAt P d:=funext fun e=>funext fun a=>funext fun b=>funext fun u=>funext fun n=>Me d e a b u n
  simp only [liesAt,ih,Oo,H9,Ha (P:=P) (F:=F)]
  rfl
theorem Wn {a : Addr} {e : TypeId} {n : Nat} {A B : Sem α} (hA : Lk P F Z A) (hB : Lk P F Z B) (dA : ∀ (e : TypeId) (v : World),v.heap[a.block]? = some (.cells #[] e) -> Bad (A.run (strip P F) v)) (dB : Hm (strip P F) B) :
  Lk P F Z (variablesAt a e n >>= fun b=>if b = true then A else B):=by
 unfold variablesAt
 rw [bind_assoc]
 refine Ca ?_ ?_
 ·simp only [Me,Ha (P:=P) (F:=F)]
  rfl
 ·rw [bind_assoc]
  refine Wq (fun e' v hv=>?_) (fun s=>?_)
  ·simp only [pure_bind]
   split
   ·exact dA e' v hv
   ·exact dB v
  ·split
   ·rw [pure_bind]; exact Ii hA hB
   ·rw [pure_bind]; exact Ii hA hB
theorem Zi {x : Sem α} {f : α -> Sem β} (hx : Lk P F Z x) (hh : ∀ (R : Program) (w : World),∃ h w',x.run R w = .halt h w') : Lk P F Z (x >>= f):=by
 refine ⟨fun w v es B hr hc ha hB=>?_⟩
 obtain ⟨h,w',e⟩:=hh P w
 obtain ⟨k,v',e'⟩:=hh (strip P F) v
 have ha' : Agree w v (wOf ((x >>= f).run P w)).drawn:=ha
 have hB' : (wOf ((x >>= f).run P w)).heap.size <= B:=hB
 rw [Sem.run_bind,e] at ha' hB'
 have:=hx.ok w v es B hr hc (by rw [e]; exact ha') (by rw [e]; exact hB')
 rw [e,e'] at this
 rw [Sem.run_bind,Sem.run_bind,Sem.events_bind,e,e']
 rcases this with t | ⟨t,t'⟩
 ·exact .inl t
 ·exact .inr ⟨⟨t.1,t.2.1,t.2.2⟩,t'⟩
theorem panics (e : RuntimeError) (R : Program) (w : World) : ∃ h w',(runtimePanic e : Sem α).run R w = .halt h w':=by
 have hb : ∀ {γ : Type} (x : Sem γ) (g : γ -> Sem α),(∀ a w,∃ h w',(g a).run R w = .halt h w') -> ∀ w,∃ h w',(x >>= g).run R w = .halt h w':=by
  intro γ x g hg w
  rw [Sem.run_bind]
  cases x.run R w with
  | ok a w'=>exact hg a w'
  | halt h w'=>exact ⟨h,w',rfl⟩
 unfold runtimePanic
 refine hb _ _ (fun p w=>?_) w
 dsimp only
 cases e with
 | typeAssertion i c a m=>exact hb _ _ (fun _ w=>hb _ _ (fun _ w=>⟨_,w,rfl⟩) w) w
 | panicNil=>exact hb _ _ (fun _ w=>hb _ _ (fun _ w=>⟨_,w,rfl⟩) w) w
 | _=>exact ⟨_,w,rfl⟩
theorem Iz (e : RuntimeError) (f : α -> Sem β) : Lk P F Z ((runtimePanic e : Sem α) >>= f):=Zi (Be e) (panics e)
theorem Pg (t : Array TypeId) (u : TypeId) (p : Option Addr) (y : Value) : Lk P F Z (Builtin.unsafeString_ t u #[.pointer p,y]):=by
 unfold Builtin.unsafeString_
 dsimp only
 refine Ao (Fy _) (fun n=>?_)
 split
 ·split
  ·exact Iz _ _
  ·rename_i hn
   split
   ·exact A7 _
   ·split
    ·exact Ii (Aq _) (Be _)
    ·split
     ·exact Aq _
     ·rename_i a h0
      obtain ⟨m,hm⟩ : ∃ m,n.toNat = m + 1:=⟨n.toNat - 1,by omega⟩
      rw [hm]
      refine Ao (Ue _) (fun e=>Wn (Ru _ _ _ _) (A7 _) (fun e' v hv=>?_) (fun _=>trivial))
      obtain ⟨e1,e2,_⟩:=Lr (Q:=strip P F) (a:=a) hv false
      unfold loadBytes
      simp only [Sem.run_bind,load,Sem.run,e1,Go.Result.andThen]
      have e3 : v.farLoad (strip P F) a (Mode.plain == Mode.atomic) = .error (.stuck "load: no such cell"):=e2
      simp only [e3]
      trivial
 ·exact Ap _
theorem Aae (t : TypeId) (x : Place) : Lk P F Z (x.get t):=by
 cases x
 ·exact Aq _
 ·exact Kz _ _
theorem Nl : ∀ (l : List FieldStep) (t : TypeId) (x : Place),Lk P F Z (follow l t x)
 | [],_,_=>Aq _
 | s :: l,t,x=>by
  have ih:=Nl l
  unfold follow
  repeat' first
   | assumption
   | (with_reducible exact ih _ _)
   | (with_reducible exact Aae _ _)
   | (with_reducible exact Ke _ _)
   | (with_reducible exact Np _)
   | (with_reducible exact Jk _ _ _)
   | (with_reducible exact Cs _)
   | (with_reducible exact Ap _)
   | (with_reducible exact Aq _)
   | (with_reducible refine Ii ?_ ?_)
   | (with_reducible refine Ao ?_ (fun _=>?_))
   | split
   | dsimp only
   | intro _
theorem Aa9 (t : Array TypeId) (u : TypeId) (x : Value) (a b : ByteArray) : Lk P F Z (Builtin.ssaWrapNilChk_ t u #[x,.string a,.string b]):=by
 unfold Builtin.ssaWrapNilChk_
 conv =>
  arg 4
  whnf
 dsimp only
 exact lkz
theorem Y6 (t : Array TypeId) (u : TypeId) (x : Value) (a b : String) : Lk P F Z (Builtin.ssaWrapNilChk_ t u #[x,strVal a,strVal b]):=Aa9 _ _ _ _ _
theorem Kb (t : TypeId) (x : Place) (b : Bool) (s : Option String) : Lk P F Z (receiverAt t x b s):=by
 unfold receiverAt
 try dsimp only
 exact lkz
theorem Rl (t : TypeId) (x : Value) (p : Array FieldStep) (b : Bool) : Lk P F Z (receiverVia t x p b):=by
 unfold receiverVia
 try dsimp only
 exact lkz
theorem Ub : ∀ (n : Nat) (t : TypeId) (x : Value) (s : String),Lk P F Z (method n t x s)
 | 0,_,_,_=>A7 _
 | n + 1,t,x,s=>by
  have ih:=Ub n
  unfold method
  repeat' first
   | assumption
   | (with_reducible exact ih _ _ _)
   | (with_reducible exact Kb _ _ _ _)
   | (with_reducible exact Nl _ _ _)
   | (with_reducible exact Aae _ _)
   | (with_reducible exact Be _)
   | (with_reducible exact Ex _)
   | (with_reducible exact Ap _)
   | (with_reducible exact Aq _)
   | (with_reducible refine Ao ?_ (fun _=>?_))
   | split
   | dsimp only
   | intro _
theorem Jj : ∀ (l : List FieldStep) (t : TypeId) (x : Option Value),Lk P F Z (followBlind l t x)
 | [],_,_=>Aq _
 | s :: l,t,x=>by
  have ih:=Jj l
  unfold followBlind
  repeat' first
   | assumption
   | (with_reducible exact ih _ _)
   | (with_reducible exact Jk _ _ _)
   | (with_reducible exact Cs _)
   | (with_reducible exact Ap _)
   | (with_reducible exact Aq _)
   | (with_reducible refine Ao ?_ (fun _=>?_))
   | split
   | dsimp only
   | intro _
theorem Ow : ∀ (n : Nat) (t : TypeId) (x : Value) (s : String),Lk P F Z (nilAhead n t x s)
 | 0,_,_,_=>Aq _
 | n + 1,t,x,s=>by
  have ih:=Ow n
  unfold nilAhead
  repeat' first
   | assumption
   | (with_reducible exact ih _ _ _)
   | (with_reducible exact Jj _ _ _)
   | (with_reducible exact Cs _)
   | (with_reducible exact Ex _)
   | (with_reducible exact Ap _)
   | (with_reducible exact Aq _)
   | (with_reducible refine Ao ?_ (fun _=>?_))
   | split
   | dsimp only
   | intro _
theorem Sk (k : FloatKind) (n : Nat) (l : IntKind) : Lk P F Z (Conv.floatToInt k n l):=by
 unfold Conv.floatToInt
 try dsimp only
 exact lkz
theorem Abn (l : Nat) : Lk P F Z (Instr.getLoop l):=by
 unfold Instr.getLoop
 try dsimp only
 exact lkz
theorem Aip (l : Nat) (x : Array Value) : Lk P F Z (Instr.yield l x):=by
 unfold Instr.yield
 exact lkz
end
section
variable {α β : Type} {P : Program} {F : Array Func} {Z : Veil}
theorem Afj (t : Array TypeId) (u : TypeId) (x : Array Value) : Lk P F Z (Builtin.delete_ t u x):=by
 unfold Builtin.delete_
 try dsimp only
 exact lkz
theorem Ai9 (t : Array TypeId) (u : TypeId) (x : Array Value) : Lk P F Z (Builtin.clear_ t u x):=by
 unfold Builtin.clear_
 try dsimp only
 exact lkz
theorem Alo (x y : Value) : Lk P F Z (Builtin.min2 x y):=by
 unfold Builtin.min2
 try dsimp only
 exact lkz
theorem Alp (x y : Value) : Lk P F Z (Builtin.max2 x y):=by
 unfold Builtin.max2
 try dsimp only
 exact lkz
theorem Nn {γ : Type} (f : β -> γ -> Sem β) (h : ∀ a b,Lk P F Z (f a b)) : ∀ (l : List γ) (b : β),Lk P F Z (l.foldlM f b)
 | [],b=>by rw [List.foldlM_nil]; exact Aq _
 | c :: l,b=>by rw [List.foldlM_cons]; exact Ao (h _ _) (fun a=>Nn f h l a)
theorem Aoi (t : Array TypeId) (u : TypeId) (x : Array Value) : Lk P F Z (Builtin.min_ t u x):=by
 unfold Builtin.min_
 split
 ·exact Ap _
 ·exact Nn _ Alo _ _
theorem Aoj (t : Array TypeId) (u : TypeId) (x : Array Value) : Lk P F Z (Builtin.max_ t u x):=by
 unfold Builtin.max_
 split
 ·exact Ap _
 ·exact Nn _ Alp _ _
theorem Ob (x : Value) : Lk P F Z (Conv.bytesToString x):=by
 unfold Conv.bytesToString
 try dsimp only
 exact lkz
theorem Aa8 {Q : Program} {o : Obj} {k : Nat -> Sem α} (ho : Oh Z o) (ih : ∀ r,¬ Z r -> Lock P Q Z (k r)) : Lock P Q Z (.new o k):=by
 intro w v es B hr hc ha hB
 have hon:=On.push hr ho
 simp only [Sem.run,hr.size]
 exact (ih w.heap.size (fun h=>Nat.lt_irrefl _ (hr.low _ h)) _ _ es B hon.rel hc (Agree.on hon ha) hB).imp id (fun t=>⟨t.1.on hon,t.2⟩)
theorem Ai2 {o : Obj} {f : Nat -> Sem α} (ho : Oh Z o) (ih : ∀ r,¬ Z r -> Lk P F Z (f r)) : Lk P F Z (newObj o >>= f):=⟨Aa8 (k:=f) ho (fun r hr=>(ih r hr).ok)⟩
theorem Wp {r : Nat} {k : Option (TypeId × Nat) -> Sem α} (hz : ¬ Z r) (ih : ∀ s,Lk P F Z (k s)) : Lk P F Z (shape r >>= k):=by
 refine ⟨fun w v es B hr hc ha hB=>?_⟩
 have h:=(ih (w.shape? r)).ok w v es B hr hc ha hB
 show Bad ((k (v.shape? r)).run (strip P F) v) \/ (Alike Z w v ((k (w.shape? r)).run P w) ((k (v.shape? r)).run (strip P F) v) /\ Cg Z B ((k (w.shape? r)).events P w es))
 have l:=hr.look r
 have e : v.shape? r = w.shape? r:=by
  unfold World.shape?
  revert l
  generalize w.heap[r]? = x
  generalize v.heap[r]? = y
  intro l
  cases l with
  | dark hd=>exact absurd hd hz
  | @shut o hd _ _ _=>exact absurd hd hz
  | @view o o' h1 h2=>cases o <;> first | exact h1.elim | (cases o' <;> first | exact h2.elim | rfl)
  | same _=>rfl
 rw [e]; exact h
theorem N8 (e : TypeId) (s : ByteArray) : Lk P F Z (Conv.stringToBytes e s):=by
 unfold Conv.stringToBytes
 refine Ao (Jz _) (fun cap=>?_)
 dsimp only
 unfold newRow
 rw [bind_assoc]
 refine Ai2 ⟨id,trivial⟩ (fun r hz=>?_)
 rw [pure_bind]
 unfold markStringish
 rw [bind_assoc]
 refine Wp hz (fun x=>?_)
 split
 ·exact Ao (Ud hz) (fun _=>Aq _)
 ·exact Ao (Aq _) (fun _=>Aq _)
end
end Go.Lift
