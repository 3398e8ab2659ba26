import Derived.Test.YtbephahokhnccaaGreatDoorXE2toE4
namespace Go.Mark
open Go.Conc Go.Lift Go.Proofs
theorem Ga {b : Frame} {a : Act} {k : List Item} (hb : b.kind = .normal) (ha : a.defers = []) (hk : ∀ x ∈ k,Dc Tryz.prog x = true) : TameF Tryz.prog (b.at a k) :=
 ⟨hk,fun d hd=>by simp [Frame.at,ha] at hd,.inl rfl,hb⟩
theorem H7 {P : Program} {D : World -> World -> Array Event -> Prop} {S S' : Goroutine -> World -> Prop} (hS : ∀ a w,S a w -> S' a w) {a : Goroutine} {w : World} (h : I7 P D S a w) : I7 P D S' a w:=by
 induction h with
 | stop h=>exact .stop fun w₁ h₁=>hS _ _ (h w₁ h₁)
 | step run nx h1 _ ih=>exact .step run nx h1 ih
theorem Afn {D : Nat -> Prop} {c : Code} {b : Frame} {a : Act} {k : List Item} {cw : List Frame} {w : World} {Φ : Act -> World -> Prop} (hb : b.kind = .normal) (ha : a.defers = []) (hc : Br Tryz.prog c = true) (hk : ∀ x ∈ k,Dc Tryz.prog x = true)
  (hex : ∃ v,Rel (veil D) w v) (hwp : ∀ v,Rel (veil D) w v -> c.wp TryQ.prog (fun e a' v'=>e = .normal /\ a'.defers = [] /\ Φ a' v') a v) :
  I7 Tryz.prog (Ho (veil D)) (fun g w'=>∃ a' v',g = G (b.at a' k) cw /\ Rel (veil D) w' v' /\ J7 w w' v' /\ a'.defers = [] /\ Φ a' v') (G (b.at a (.code c :: k)) cw) w:=by
 refine H7 ?_ (lift (fair D) (cw:=cw) (S:=fun fr frs v=>∃ a',fr = b.at a' k /\ frs = [] /\ a'.defers = [] /\ Φ a' v) (fr:=b.at a (.code c :: k)) (frs:=[]) (w:=w)
  (Ga hb ha (fun x hx=>by rcases List.mem_cons.1 hx with rfl | hx; exact hc; exact hk x hx)) (fun f hf=>by simp at hf) hex (fun v hv=>?_))
 ·rintro g w' ⟨fr,frs,v,rfl,hr,hs,a',rfl,rfl,hd,hΦ⟩
  exact ⟨a',v,rfl,hr,hs,hd,hΦ⟩
 ·obtain ⟨e,a',v',⟨rfl,hd,hΦ⟩,n,hn⟩:=hwp v hv b k [trap FQ.size]
  rw [TryQ.prog_eq] at hn
  exact ⟨n,b.at a' k,[],v',hn,Ga hb hd hk,a',rfl,rfl,hd,hΦ⟩
def after (b₀ : Frame) (a₀ : Act) (ops₀ : Array Oper) (i₀ : Nat) (rest₀ : List Nat) (k₀ : List Item) (v : Value) : Frame:=b₀.at (a₀.put ((ops₀[i₀]?).bind (·.dst)) v) (.inRegion ops₀ rest₀ :: k₀)
theorem Ac5 (a : Act) (x : Option Tmp) (v : Value) (h : a.defers = []) : (a.put x v).defers = []:=by cases x <;> exact h
theorem Oy {Q : Program} {f : FuncId} {fn : Func} {b c : Frame} {a : Act} {todo : List Item} {cs : List Frame} {v : World} {val : Value} (hbf : b.fn = f) (hb : b.kind = .normal) (hf : Q.funcs[f]? = some fn) (hd : a.defers = []) (hr : (results fn a.tmps).run Q v = .ok val v) :
  Steps Q (lone { b.at a todo with mode:=.returning } (c :: cs) v) (lone (c.finish val) cs v) :=
 .one (step_leave_returned ⟨rfl,hd,hb,fn,by show Q.funcs[b.fn]? = _; rw [hbf]; exact hf,hr⟩)
theorem Uh {D : Nat -> Prop} {f : FuncId} {fn : Func} {c : Code} {b b₀ : Frame} {a a₀ : Act} {ops₀ : Array Oper} {i₀ : Nat} {rest₀ : List Nat} {k₀ : List Item} {cw : List Frame} {w : World} {Ψ : Value -> World -> Prop} (hbf : b.fn = f) (hf : TryQ.prog.funcs[f]? = some fn) (hb : b.kind = .normal) (ha : a.defers = []) (hc : Br Tryz.prog c = true)
  (hb₀ : b₀.kind = .normal) (ha₀ : a₀.defers = []) (ho₀ : Gl Tryz.prog ops₀ = true) (hk₀ : ∀ x ∈ k₀,Dc Tryz.prog x = true)
  (hex : ∃ v,Rel (veil D) w v) (hwp : ∀ v,Rel (veil D) w v -> c.wp TryQ.prog (bodyPost TryQ.prog fn fun e v'=>∃ val,e = .returned val /\ Ψ val v') a v) :
  I7 Tryz.prog (Ho (veil D)) (fun g w'=>∃ val v',g = G (after b₀ a₀ ops₀ i₀ rest₀ k₀ val) cw /\ Rel (veil D) w' v' /\ J7 w w' v' /\ Ψ val v') (G (b.at a [.code c]) (b₀.at a₀ (.inRegion ops₀ (i₀ :: rest₀) :: k₀) :: cw)) w:=by
 have tc : ∀ a',a'.defers = [] -> ∀ l,TameF Tryz.prog (b₀.at a' (.inRegion ops₀ l :: k₀)):=fun a' ha' l=>Ga hb₀ ha' (fun x hx=>by rcases List.mem_cons.1 hx with rfl | hx; exact ho₀; exact hk₀ x hx)
 refine H7 ?_ (lift (fair D) (cw:=cw) (S:=fun fr frs v=>∃ val,fr = after b₀ a₀ ops₀ i₀ rest₀ k₀ val /\ frs = [] /\ Ψ val v) (fr:=b.at a [.code c]) (frs:=[b₀.at a₀ (.inRegion ops₀ (i₀ :: rest₀) :: k₀)]) (w:=w)
  (Ga hb ha (fun x hx=>by rw [List.mem_singleton.1 hx]; exact hc)) (fun f hf=>by rw [List.mem_singleton.1 hf]; exact tc a₀ ha₀ _) hex (fun v hv=>?_))
 ·rintro g w' ⟨fr,frs,v,rfl,hr,hs,val,rfl,rfl,hΨ⟩
  exact ⟨val,v,rfl,hr,hs,hΨ⟩
 ·obtain ⟨e,a',v',hQ,hA⟩:=hwp v hv b [] (b₀.at a₀ (.inRegion ops₀ (i₀ :: rest₀) :: k₀) :: [trap FQ.size])
  have fin : ∀ val,(b₀.at a₀ (.inRegion ops₀ (i₀ :: rest₀) :: k₀)).finish val = after b₀ a₀ ops₀ i₀ rest₀ k₀ val:=fun val=>Frame.finish_at _ _ _ _ _ _ _
  have key : ∀ val,(∃ todo,Steps TryQ.prog (lone (b.at a [.code c]) (b₀.at a₀ (.inRegion ops₀ (i₀ :: rest₀) :: k₀) :: [trap FQ.size]) v) (lone { b.at a' todo with mode:=.returning } (b₀.at a₀ (.inRegion ops₀ (i₀ :: rest₀) :: k₀) :: [trap FQ.size]) v')) -> a'.defers = [] -> (results fn a'.tmps).run TryQ.prog v' = .ok val v' -> Ψ val v' ->
    ∃ n fr' frs' v'',runN (strip Tryz.prog FQ) n (lone (b.at a [.code c]) ([b₀.at a₀ (.inRegion ops₀ (i₀ :: rest₀) :: k₀)] ++ [trap FQ.size]) v) = .next (lone fr' (frs' ++ [trap FQ.size]) v'') /\ TameF Tryz.prog fr' /\ ∃ val,fr' = after b₀ a₀ ops₀ i₀ rest₀ k₀ val /\ frs' = [] /\ Ψ val v'':=by
   rintro val ⟨todo,hs⟩ hd hr hΨ
   obtain ⟨n,hn⟩:=hs.trans (Oy (todo:=todo) hbf hb hf hd hr)
   rw [fin,TryQ.prog_eq] at hn
   exact ⟨n,_,[],v',hn,tc _ (Ac5 _ _ _ ha₀) _,val,rfl,rfl,hΨ⟩
  cases e with
  | normal =>
   obtain ⟨hd,x,hr,val,hv',hΨ⟩:=hQ
   cases hv'
   exact key _ ⟨[],hA.trans (.one step_end)⟩ hd hr hΨ
  | ret =>
   obtain ⟨hd,x,hr,val,hv',hΨ⟩:=hQ
   cases hv'
   exact key _ hA hd hr hΨ
  | panic ch=>obtain ⟨_,_,h,_⟩:=hQ; cases h
  | outgrown=>obtain ⟨_,h,_⟩:=hQ; cases h
  | _=>exact hQ.elim
end Go.Mark
