import Derived.Test.YtbephahokhnccaaGreatDoorXA17toE1
import Derived.Conc.CrowdRun
set_option linter.unusedSectionVars false
namespace Go.Phase
open Go.Conc Go.Lift
open Go.ConcN (WgLive PayAt Has AtR0 AtK1 WSit RW CTag CT Apart OkW Ok0 ShN RelBy)
open Go.ConcR (KK wgBlock WgAt stA smA rd wr mk Payload Bk g_of_ofEvents)
variable [Payload]
structure Cfg where
 P : Program
 ty : TypeId
 /-- the type of the cells that a worker makes for itself -/
 tb : TypeId
 Wg : Nat
 C : Nat
 n : Nat
 base : Nat
 /-- how many goroutines are leaving from before -/
 o : Nat
 Shun : Loc -> Prop
 /-- what worker i leaves in its cell and in its block -/
 Out : Nat -> Nat -> World -> Prop
 Anch : Nat -> Goroutine -> World -> Prop
 Then : Goroutine -> World -> Prop
section
variable (c : Cfg)
def IsB (w : World) (b : Nat) : Prop:=∃ x f,w.heap[b]? = some (.cells x c.tb f)
def Tidy (w : World) : Prop:=∀ (b : Nat) (o : Obj),c.base <= b -> w.heap[b]? = some o -> ∃ x e,o = .cells x e
structure RX (Low i : Nat) (own : Nat -> Prop) (w w₁ : World) : Prop where
 size : w.heap.size <= w₁.heap.size
 keep : ∀ b,b < Low -> b ≠ c.Wg -> b ≠ c.C -> ¬ IsB c w b -> w₁.heap[b]? = w.heap[b]?
 mine : ∀ b,own b -> w₁.heap[b]? = w.heap[b]?
 live : WgLive c.ty c.Wg w -> WgLive c.ty c.Wg w₁
 pay : PayAt c.C c.n w -> PayAt c.C c.n w₁
 cell : w₁.cell? ⟨c.C,i,none⟩ = w.cell? ⟨c.C,i,none⟩
structure R0 (w w₁ : World) : Prop where
 size : w.heap.size <= w₁.heap.size
 keep : ∀ b,b < w.heap.size -> b ≠ c.Wg -> b ≠ c.C -> ¬ IsB c w b -> w₁.heap[b]? = w.heap[b]?
 live : WgLive c.ty c.Wg w -> WgLive c.ty c.Wg w₁
def Neutral (e : Event) : Prop:=e.loc = .mark .noRoom \/ ∃ f,e.loc = .mark (.extern f)
def EvR (Low : Nat) (w : World) (e : Event) : Prop :=
 (∃ a : Addr,e = ⟨.cell a,false,false⟩ /\ c.base <= a.block /\ a.block < Low /\ a.block ≠ c.Wg /\ a.block ≠ c.C /\ ¬ IsB c w a.block) \/ Neutral e
def DA (Low : Nat) (w w' : World) (es : Array Event) : Prop:=(∃ d,w' = w.at d) /\ ∀ e ∈ es,EvR c Low w e
structure DB (Low b i : Nat) (w w' : World) (es : Array Event) : Prop where
 size : w'.heap.size = w.heap.size
 block : ∀ b',b' ≠ b -> b' ≠ c.C -> w'.heap[b']? = w.heap[b']?
 isb : IsB c w b -> IsB c w' b
 pay : PayAt c.C c.n w -> PayAt c.C c.n w'
 cells : ∀ i',i' ≠ i -> w'.cell? ⟨c.C,i',none⟩ = w.cell? ⟨c.C,i',none⟩
 ev : ∀ e ∈ es,EvR c Low w e \/ ∃ (a : Addr) (x : Bool),e = ⟨.cell a,x,false⟩ /\ (a.block = b \/ a = ⟨c.C,i,none⟩)
 tidy : Tidy c w -> Tidy c w'
 os : w'.os = w.os /\ w'.output = w.output
def K8 (i b : Nat) (g : Goroutine) (w : World) : Prop:=(∃ v,AtR0 c.P c.ty c.Wg c.C c.n 0 (i + 1) v g w) /\ c.Out i b w
def made (w : World) (x : Array Value) : World:={ w with heap:=w.heap.push (.cells x c.tb) }
def Ee (Low i mB : Nat) (g : Goroutine) (w : World) : Prop :=
 g.status = .running /\ ∃ g' x es,stepG c.P false g w = .go g' (made c w x) es /\ (∀ e ∈ es,Neutral e) /\
  Goes c.P false (RX c Low i (· = w.heap.size)) (DB c Low w.heap.size i) (K8 c i w.heap.size) mB g' (made c w x)
def Works (i Low : Nat) (g : Goroutine) (w : World) : Prop:=∃ m mB,Goes c.P false (RX c Low i (fun _=>False)) (DA c Low) (Ee c Low i mB) m g w
def Ev0 (Low : Nat) (w : World) (e : Event) : Prop :=
 (∃ (a : Addr) (x : Bool),e = ⟨.cell a,x,false⟩ /\ a.block ≠ c.Wg /\ a.block ≠ c.C /\ ¬ IsB c w a.block /\ ¬ c.Shun (.cell a) /\ (x = true -> Low <= a.block) /\ a.block < w.heap.size) \/
 (∃ a : Addr,(e = ⟨.mark (.read a),false,true⟩ \/ e = ⟨.mark (.write a),false,true⟩) /\ a.block = c.Wg) \/ Neutral e
structure D0 (Low : Nat) (w w' : World) (es : Array Event) : Prop where
 size : w.heap.size <= w'.heap.size
 keep : ∀ b,b < w.heap.size -> b < Low \/ IsB c w b -> w'.heap[b]? = w.heap[b]?
 ev : ∀ e ∈ es,Ev0 c Low w e
 tidy : Tidy c w -> Tidy c w'
 os : w'.os = w.os /\ w'.output = w.output
/-! the starter,from its end backwards -/
section
variable (Low : Nat)
def AtAcq (g : Goroutine) (w : World) : Prop :=
 g.status = .running /\ ∃ g',stepG c.P true g w = .go g' w #[mk (.acquire (stA c.Wg))] /\ c.Then g' w
def AtKe (g : Goroutine) (w : World) : Prop :=
 g.status = .running /\ ∃ g',stepG c.P true g w = .go g' w #[mk .enable] /\ ∃ m,Goes c.P true (R0 c) (D0 c Low) (AtAcq c) m g' w
def AtW4 (g : Goroutine) (w : World) : Prop :=
 g.status = .running /\ (WgAt c.ty c.Wg w 0 0 -> ∃ g',stepG c.P true g w = .go g' w #[rd (stA c.Wg)] /\ ∃ m,Goes c.P true (R0 c) (D0 c Low) (AtKe c Low) m g' w)
def AtW3 (g : Goroutine) (w : World) : Prop :=
 g.status = .running /\ g.offers = none /\
  ((∃ st,WgAt c.ty c.Wg w st 0) -> stepG c.P true g w = .go { g with status:=.blocked } w #[]) /\
  (WgAt c.ty c.Wg w 0 1 -> ∃ g',stepG c.P true g w = .go g' (w.setCell (smA c.Wg) (.int .u32 0)) (semEvents (smA c.Wg)) /\ ∃ m,Goes c.P true (R0 c) (D0 c Low) (AtW4 c Low) m g' (w.setCell (smA c.Wg) (.int .u32 0)))
def AtW2 (vs : Nat) (g : Goroutine) (w : World) : Prop :=
 g.status = .running /\ ∀ v : Nat,v < 2147483648 -> WgAt c.ty c.Wg w (v * KK) 0 ->
  (v = vs -> ∃ g',stepG c.P true g w = .go g' (w.setCell (stA c.Wg) (.int .u64 (v * KK + 1))) #[rd (stA c.Wg),wr (stA c.Wg)] /\ ∃ m,Goes c.P true (R0 c) (D0 c Low) (AtW3 c Low) m g' (w.setCell (stA c.Wg) (.int .u64 (v * KK + 1)))) /\
  (v ≠ vs -> ∃ g',stepG c.P true g w = .go g' w #[rd (stA c.Wg)] /\ ∃ m,Goes c.P true (R0 c) (D0 c Low) (c.Anch Low) m g' w)
def AtW1 (g : Goroutine) (w : World) : Prop :=
 g.status = .running /\ ∀ v : Nat,v < 2147483648 -> WgAt c.ty c.Wg w (v * KK) 0 -> ∃ g',stepG c.P true g w = .go g' w #[rd (stA c.Wg)] /\
  (v = 0 -> ∃ m,Goes c.P true (R0 c) (D0 c Low) (AtKe c Low) m g' w) /\ (v ≠ 0 -> ∃ m,Goes c.P true (R0 c) (D0 c Low) (AtW2 c Low v) m g' w)
def AtKd (g : Goroutine) (w : World) : Prop :=
 g.status = .running /\ ∃ g',stepG c.P true g w = .go g' w #[mk .disable] /\ ∃ m,Goes c.P true (R0 c) (D0 c Low) (c.Anch Low) m g' w
/-! while it starts them -/
variable (i : Nat) (Next : Goroutine -> World -> Prop)
def AtGo (g : Goroutine) (w : World) : Prop :=
 g.status = .running /\ ∃ g' child,stepG c.P true g w = .spawn g' child w #[] /\ child.status = .running /\ (PayAt c.C c.n w -> Works c i w.heap.size child w) /\ Next g' w
def AtKeS (g : Goroutine) (w : World) : Prop :=
 g.status = .running /\ ∃ g',stepG c.P true g w = .go g' w #[mk .enable] /\ ∃ m,Goes c.P true (R0 c) (D0 c Low) (AtGo c i Next) m g' w
def AtA1 (g : Goroutine) (w : World) : Prop :=
 g.status = .running /\ ∀ v : Nat,v < 2147483647 -> WgAt c.ty c.Wg w (v * KK) 0 ->
  ∃ g',stepG c.P true g w = .go g' (w.setCell (stA c.Wg) (.int .u64 ((v + 1) * KK))) #[rd (stA c.Wg),wr (stA c.Wg)] /\
   ∃ m,Goes c.P true (R0 c) (D0 c Low) (AtKeS c Low i Next) m g' (w.setCell (stA c.Wg) (.int .u64 ((v + 1) * KK)))
def AtKdS (g : Goroutine) (w : World) : Prop :=
 g.status = .running /\ ∃ g',stepG c.P true g w = .go g' w #[mk .disable] /\ ∃ m,Goes c.P true (R0 c) (D0 c Low) (AtA1 c Low i Next) m g' w
end
def Spawns : Nat -> Goroutine -> World -> Prop
 | 0,g,w=>∃ m,Goes c.P true (R0 c) (D0 c w.heap.size) (AtKd c w.heap.size) m g w
 | r + 1,g,w=>∃ m,Goes c.P true (R0 c) (D0 c w.heap.size) (AtKdS c w.heap.size (c.n - (r + 1)) (Spawns r)) m g w
/-! where each stands -/
inductive WX (i Low : Nat) : Option Nat -> Nat -> Nat -> Nat -> Goroutine -> World -> Prop
 | a {m mB : Nat} {g : Goroutine} {w : World} : Goes c.P false (RX c Low i (fun _=>False)) (DA c Low) (Ee c Low i mB) m g w -> WX i Low none 7 (m + mB + 1) 0 g w
 | b {b m : Nat} {g : Goroutine} {w : World} : Goes c.P false (RX c Low i (· = b)) (DB c Low b i) (K8 c i b) m g w -> WX i Low (some b) 7 m 0 g w
 | c {b : Nat} {v : Value} {s m d : Nat} {g : Goroutine} {w : World} : s <= 6 -> WSit c.P c.ty c.Wg c.C c.n (fun _ _=>False) (fun _ _=>False) 0 (i + 1) v s m d g w -> c.Out i b w -> WX i Low (some b) s m d g w
section
variable (Low : Nat)
inductive CX : CTag -> Nat -> Nat -> Nat -> Goroutine -> World -> Prop
 | skd {r m : Nat} {g : Goroutine} {w : World} : r < c.n -> Goes c.P true (R0 c) (D0 c Low) (AtKdS c Low (c.n - (r + 1)) (Spawns c r)) m g w -> CX (.sp r 5) (c.n - (r + 1)) m 0 g w
 | sa1 {r m : Nat} {g : Goroutine} {w : World} : r < c.n -> Goes c.P true (R0 c) (D0 c Low) (AtA1 c Low (c.n - (r + 1)) (Spawns c r)) m g w -> CX (.sp r 4) (c.n - (r + 1)) m 1 g w
 | ske {r m : Nat} {g : Goroutine} {w : World} : r < c.n -> Goes c.P true (R0 c) (D0 c Low) (AtKeS c Low (c.n - (r + 1)) (Spawns c r)) m g w -> CX (.sp r 3) (c.n - (r + 1)) m 1 g w
 | sgo {r m : Nat} {g : Goroutine} {w : World} : r < c.n -> Goes c.P true (R0 c) (D0 c Low) (AtGo c (c.n - (r + 1)) (Spawns c r)) m g w -> CX (.sp r 2) (c.n - (r + 1)) m 0 g w
 | kd {m : Nat} {g : Goroutine} {w : World} : Goes c.P true (R0 c) (D0 c Low) (AtKd c Low) m g w -> CX .kd c.n m 0 g w
 | anch {m : Nat} {g : Goroutine} {w : World} : Goes c.P true (R0 c) (D0 c Low) (c.Anch Low) m g w -> CX .anch c.n m 1 g w
 | w1 {m : Nat} {g : Goroutine} {w : World} : Goes c.P true (R0 c) (D0 c Low) (AtW1 c Low) m g w -> CX .w1 c.n m 1 g w
 | w2 {vs m : Nat} {g : Goroutine} {w : World} : Goes c.P true (R0 c) (D0 c Low) (AtW2 c Low vs) m g w -> CX (.w2 vs) c.n m 1 g w
 | w3 {m : Nat} {g : Goroutine} {w : World} : Goes c.P true (R0 c) (D0 c Low) (AtW3 c Low) m g w -> CX .w3 c.n (m + 1) 1 g w
 | blk {g : Goroutine} {w : World} : (∀ w₁,R0 c w w₁ -> AtW3 c Low g w₁) -> CX .blk c.n 0 1 { g with status:=.blocked } w
 | w4 {m : Nat} {g : Goroutine} {w : World} : Goes c.P true (R0 c) (D0 c Low) (AtW4 c Low) m g w -> CX .w4 c.n m 1 g w
 | ke {m : Nat} {g : Goroutine} {w : World} : Goes c.P true (R0 c) (D0 c Low) (AtKe c Low) m g w -> CX .ke c.n m 1 g w
 | acq {m : Nat} {g : Goroutine} {w : World} : Goes c.P true (R0 c) (D0 c Low) (AtAcq c) m g w -> CX .acq c.n m 0 g w
end
end
/-! ### the relies -/
section
variable {c : Cfg} {Low i : Nat} {own : Nat -> Prop} {w w₁ w₂ : World}
theorem IsB.of_block {b : Nat} (h : IsB c w b) (e : w₁.heap[b]? = w.heap[b]?) : IsB c w₁ b:=let ⟨x,f,hx⟩:=h; ⟨x,f,e.trans hx⟩
theorem IsB.lt {b : Nat} (h : IsB c w b) : b < w.heap.size:=by
 obtain ⟨x,f,hx⟩:=h
 exact (Array.getElem?_eq_some_iff.1 hx).1
theorem RX.refl (w : World) : RX c Low i own w w:=⟨Nat.le_refl _,fun _ _ _ _ _=>rfl,fun _ _=>rfl,id,id,rfl⟩
theorem RX.trans (h : RX c Low i own w w₁) (k : RX c Low i own w₁ w₂) : RX c Low i own w w₂ :=
 ⟨Nat.le_trans h.size k.size,fun b h1 h2 h3 h4=>(k.keep b h1 h2 h3 (fun x=>h4 (x.of_block (h.keep b h1 h2 h3 h4).symm))).trans (h.keep b h1 h2 h3 h4),fun b hb=>(k.mine b hb).trans (h.mine b hb),k.live ∘ h.live,k.pay ∘ h.pay,k.cell.trans h.cell⟩
theorem RX.at (w : World) (d : Nat) : RX c Low i own w (w.at d):=⟨Nat.le_refl _,fun _ _ _ _ _=>rfl,fun _ _=>rfl,id,id,rfl⟩
theorem RX.rw (h : RX c Low i own w w₁) : RW c.ty c.Wg c.C c.n 0 i w w₁:=⟨fun b hb=>absurd hb (Nat.not_lt_zero b),h.live,h.pay,h.cell⟩
theorem R0.refl (w : World) : R0 c w w:=⟨Nat.le_refl _,fun _ _ _ _ _=>rfl,id⟩
theorem R0.trans (h : R0 c w w₁) (k : R0 c w₁ w₂) : R0 c w w₂ :=
 ⟨Nat.le_trans h.size k.size,fun b h1 h2 h3 h4=>(k.keep b (Nat.lt_of_lt_of_le h1 h.size) h2 h3 (fun x=>h4 (x.of_block (h.keep b h1 h2 h3 h4).symm))).trans (h.keep b h1 h2 h3 h4),k.live ∘ h.live⟩
theorem R0.at (w : World) (d : Nat) : R0 c w (w.at d):=⟨Nat.le_refl _,fun _ _ _ _ _=>rfl,id⟩
theorem tr0 : ∀ a b d : World,R0 c a b -> R0 c b d -> R0 c a d:=fun _ _ _ h k=>h.trans k
theorem trX : ∀ a b d : World,RX c Low i own a b -> RX c Low i own b d -> RX c Low i own a d:=fun _ _ _ h k=>h.trans k
theorem WX.rely {bo : Option Nat} {s m d : Nat} {g : Goroutine} (hOut : ∀ i b w w',w'.heap[b]? = w.heap[b]? -> w'.cell? ⟨c.C,i,none⟩ = w.cell? ⟨c.C,i,none⟩ -> c.Out i b w -> c.Out i b w')
  (h : WX c i Low bo s m d g w) (hr : RX c Low i (fun b=>bo = some b) w w₁) : WX c i Low bo s m d g w₁:=by
 cases h with
 | a h=>exact .a (Goes.rely trX h ⟨hr.size,hr.keep,fun _ x=>x.elim,hr.live,hr.pay,hr.cell⟩)
 | b h=>exact .b (Goes.rely trX h ⟨hr.size,hr.keep,fun b' e=>hr.mine b' (by rw [e]),hr.live,hr.pay,hr.cell⟩)
 | @c b _ _ _ _ _ _ h1 h2 h3=>exact .c h1 (h2.rely hr.rw) (hOut i b w w₁ (hr.mine b rfl) hr.cell h3)
theorem WX.status {bo : Option Nat} {s m d : Nat} {g : Goroutine} (h : WX c i Low bo s m d g w) : g.status = .running \/ g.status = .finished:=by
 cases h with
 | a h=>exact .inl (Goes.running (fun _ _ x=>x.1) w (RX.refl w) h)
 | b h=>exact .inl (Goes.running (fun _ _ x=>x.1.elim fun _ y=>y.1) w (RX.refl w) h)
 | c _ h _=>exact h.status
theorem WX.woken {bo : Option Nat} {s m d : Nat} {g : Goroutine} (h : WX c i Low bo s m d g w) (P : Program) (a a' : Goroutine) (w' : World) : woken P a a' w' g = g:=by
 unfold Go.Conc.woken
 split
 ·exact again_running _ h.status
 ·rfl
theorem CX.rely {tag : CTag} {j f d : Nat} {g : Goroutine} (h : CX c Low tag j f d g w) (hr : R0 c w w₁) : CX c Low tag j f d g w₁:=by
 cases h with
 | skd hn h=>exact .skd hn (Goes.rely tr0 h hr)
 | sa1 hn h=>exact .sa1 hn (Goes.rely tr0 h hr)
 | ske hn h=>exact .ske hn (Goes.rely tr0 h hr)
 | sgo hn h=>exact .sgo hn (Goes.rely tr0 h hr)
 | kd h=>exact .kd (Goes.rely tr0 h hr)
 | anch h=>exact .anch (Goes.rely tr0 h hr)
 | w1 h=>exact .w1 (Goes.rely tr0 h hr)
 | w2 h=>exact .w2 (Goes.rely tr0 h hr)
 | w3 h=>exact .w3 (Goes.rely tr0 h hr)
 | blk h=>exact .blk fun w₂ h₂=>h w₂ (hr.trans h₂)
 | w4 h=>exact .w4 (Goes.rely tr0 h hr)
 | ke h=>exact .ke (Goes.rely tr0 h hr)
 | acq h=>exact .acq (Goes.rely tr0 h hr)
theorem CX.status {tag : CTag} {j f d : Nat} {g : Goroutine} (hA : ∀ L g w,c.Anch L g w -> g.status = .running) (h : CX c Low tag j f d g w) : (g.status = .running /\ tag ≠ .blk) \/ (g.status = .blocked /\ tag = .blk):=by
 have r : ∀ {S : Goroutine -> World -> Prop} {m : Nat},(∀ g w,S g w -> g.status = .running) -> Goes c.P true (R0 c) (D0 c Low) S m g w -> g.status = .running:=fun hs h=>Goes.running hs w (R0.refl w) h
 cases h with
 | skd _ h=>exact .inl ⟨r (fun _ _ x=>x.1) h,by simp⟩
 | sa1 _ h=>exact .inl ⟨r (fun _ _ x=>x.1) h,by simp⟩
 | ske _ h=>exact .inl ⟨r (fun _ _ x=>x.1) h,by simp⟩
 | sgo _ h=>exact .inl ⟨r (fun _ _ x=>x.1) h,by simp⟩
 | kd h=>exact .inl ⟨r (fun _ _ x=>x.1) h,by simp⟩
 | anch h=>exact .inl ⟨r (hA Low) h,by simp⟩
 | w1 h=>exact .inl ⟨r (fun _ _ x=>x.1) h,by simp⟩
 | w2 h=>exact .inl ⟨r (fun _ _ x=>x.1) h,by simp⟩
 | w3 h=>exact .inl ⟨r (fun _ _ x=>x.1) h,by simp⟩
 | blk _=>exact .inr ⟨rfl,rfl⟩
 | w4 h=>exact .inl ⟨r (fun _ _ x=>x.1) h,by simp⟩
 | ke h=>exact .inl ⟨r (fun _ _ x=>x.1) h,by simp⟩
 | acq h=>exact .inl ⟨r (fun _ _ x=>x.1) h,by simp⟩
theorem CX.wokenBy {tag : CTag} {j f d : Nat} {a : Goroutine} (hA : ∀ L g w,c.Anch L g w -> g.status = .running) (h : CX c Low tag j f d a w) (hr : R0 c w w₁) (g g' : Goroutine) :
  ∃ tag' f',CX c Low tag' j f' d (Go.Conc.woken c.P g g' w₁ a) w₁ /\ f' <= f + 1 /\ (tag' = tag \/ (tag = .blk /\ tag' = .w3)) /\ (mayWake c.P g = true -> g'.status = .running -> tag' ≠ .blk):=by
 have h':=h.rely hr
 unfold Go.Conc.woken
 split
 ·rcases h'.status hA with ⟨hs,hne⟩ | ⟨_,rfl⟩
  ·refine ⟨tag,f,?_,by omega,.inl rfl,fun _ _=>hne⟩
   rw [again_running _ (.inl hs)]; exact h'
  ·cases h' with
   | blk hb =>
    have h3:=hb w₁ (.refl w₁)
    refine ⟨.w3,0 + 1,?_,by omega,.inr ⟨rfl,rfl⟩,fun _ _=>by simp⟩
    rw [Go.ConcR.again_blocked h3.1 h3.2.1]
    exact .w3 (Goes.stop hb)
 ·rename_i hc
  exact ⟨tag,f,h',by omega,.inl rfl,fun h1 h2=>absurd (by simp [h1,h2]) hc⟩
theorem CX.bound {tag : CTag} {j f d : Nat} {g : Goroutine} (h : CX c Low tag j f d g w) : j + Go.ConcN.pend tag <= c.n:=by
 cases h <;> simp only [Go.ConcN.pend] <;> (try simp) <;> omega
end
end Go.Phase
namespace Go.Phase
open Go.Conc Go.Lift
open Go.ConcN (WgLive PayAt Has AtR0 AtK1 WSit RW CTag CT Apart OkW Ok0 ShN RelBy WD upd upd_same upd_ne PermW)
open Go.ConcR (KK wgBlock WgAt stA smA rd wr mk Payload Bk g_of_ofEvents)
variable [Payload]
section
variable (c : Cfg)
structure Geo : Prop where
 hCW : c.C ≠ c.Wg
 ty : c.ty ≠ c.tb
 ety : Payload.ety ≠ c.tb
 bC : c.base <= c.C
 bW : c.base <= c.Wg
 shun : ∀ l,c.Shun l -> ∃ a : Addr,l = .cell a /\ a.block < c.base
 out : ∀ i b (w w' : World),w'.heap[b]? = w.heap[b]? -> w'.cell? ⟨c.C,i,none⟩ = w.cell? ⟨c.C,i,none⟩ -> c.Out i b w -> c.Out i b w'
 anch : ∀ L g w,c.Anch L g w -> g.status = .running
def Sh (l : Loc) : Prop:=ShN c.Wg l \/ c.Shun l
def Own (Bo : Nat -> Option Nat) (k : Nat) (l : Loc) : Prop:=∃ (i : Nat) (a : Addr),k = c.o + i + 1 /\ l = .cell a /\ (a = ⟨c.C,i,none⟩ \/ Bo i = some a.block)
def Rd (RB : Nat -> Nat -> Prop) (k : Nat) (l : Loc) : Prop:=∃ (i : Nat) (a : Addr),k = c.o + i + 1 /\ l = .cell a /\ RB i a.block
def Adz (B : Nat) (op : MemOp) : Prop :=
 (op.g = 0 \/ c.o < op.g \/ op.act.touch? = none) /\ (∀ x,op.act.touch? = some x -> x.loc.isMemory = true /\ (x.kind = .atomic -> ShN c.Wg x.loc)) /\ op.act.low B
structure Com (w0 : World) (t0 : Trace) (Low j : Nat) (gs : Array Goroutine) (w : World) (t : Trace) (D : Nat -> WD) (Lw : Nat -> Nat) (Bo : Nat -> Option Nat) (RB : Nat -> Nat -> Prop) (d0 : Nat) : Prop where
 size : gs.size = c.o + j + 1
 old : ∀ i,i < c.o -> ∃ g,gs[i + 1]? = some g /\ (D i).stage = 1 /\ QuitsD c.P (D i).fuel (D i).deaf g
 wk : ∀ i,i < j -> ∃ g,gs[c.o + i + 1]? = some g /\ WX c i (Lw i) (Bo i) (D (c.o + i)).stage (D (c.o + i)).fuel (D (c.o + i)).deaf g w
 low : ∀ i,i < j -> Lw i <= Low
 lowS : Low <= w.heap.size
 lowW : c.Wg < Low
 lowC : c.C < Low
 lowB : c.base <= Low
 bs : ∀ i b,Bo i = some b -> i < j /\ c.base <= b /\ IsB c w b
 inj : ∀ i i' b,Bo i = some b -> Bo i' = some b -> i = i'
 rb : ∀ i b,RB i b -> i < j /\ c.base <= b /\ b < Lw i /\ b ≠ c.Wg /\ b ≠ c.C /\ ¬ IsB c w b
 rb' : ∀ i b,i < j -> c.base <= b -> b < Lw i -> b ≠ c.Wg -> b ≠ c.C -> ¬ IsB c w b -> RB i b
 live : WgLive c.ty c.Wg w
 pay : PayAt c.C c.n w
 ct : CT (Sh c) (Own c Bo) (Rd c RB) t (c.o + j)
 norel : NoRelease (stA c.Wg) t
 deaf0 : Deaf t 0 = d0
 deafW : ∀ i,i < c.o + j -> Deaf t (i + 1) = (D i).deaf
 rel : ∀ i,i < j -> (D (c.o + i)).stage <= 6 -> ∃ r,RelBy (stA c.Wg) t (c.o + i + 1) r
 frame : ∀ b,b < c.base -> w.heap[b]? = w0.heap[b]?
 tr : ∃ u,t = t0 ++ u /\ ∀ op ∈ u,Adz c w.heap.size op
 tr0 : ∀ op ∈ t0,op.act.low w.heap.size
 tidy : Tidy c w
 os : w.os = w0.os /\ w.output = w0.output
structure Stp (w w' : World) : Prop where
 size : w.heap.size <= w'.heap.size
 isb : ∀ b,IsB c w b -> IsB c w' b
 frame : ∀ b,b < c.base -> w'.heap[b]? = w.heap[b]?
 tidy : Tidy c w -> Tidy c w'
 os : w'.os = w.os /\ w'.output = w.output
end
section
variable {c : Cfg} {w0 w w' : World} {t0 t : Trace} {Low j : Nat} {gs : Array Goroutine} {D : Nat -> WD} {Lw : Nat -> Nat} {Bo Bo' : Nat -> Option Nat} {RB : Nat -> Nat -> Prop} {d0 : Nat}
theorem Vq (G : Geo c) (h : WgLive c.ty c.Wg w) : ¬ IsB c w c.Wg:=by
 rintro ⟨x,f,hx⟩
 obtain ⟨st,sm,hl⟩:=h
 unfold WgAt wgBlock at hl
 rw [hl] at hx
 simp only [Option.some.injEq,Obj.cells.injEq] at hx
 exact G.ty hx.2.1
theorem Jc (G : Geo c) (h : PayAt c.C c.n w) : ¬ IsB c w c.C:=by
 rintro ⟨x,f,hx⟩
 obtain ⟨cs,hl,_⟩:=h
 rw [hl] at hx
 simp only [Option.some.injEq,Obj.cells.injEq] at hx
 exact G.ety hx.2.1
theorem Qi (G : Geo c) (hl : WgLive c.ty c.Wg w) (hp : PayAt c.C c.n w) (bs : ∀ i b,Bo i = some b -> c.base <= b /\ IsB c w b) (inj : ∀ i i' b,Bo i = some b -> Bo i' = some b -> i = i')
  (rb : ∀ i b,RB i b -> c.base <= b /\ b ≠ c.Wg /\ b ≠ c.C /\ ¬ IsB c w b) : Apart (Sh c) (Own c Bo) (Rd c RB):=by
 refine ⟨?_,?_,?_,?_⟩
 ·rintro k k' l ⟨i,a,rfl,rfl,h1⟩ ⟨i',a',rfl,e,h2⟩
  cases e
  rcases h1 with rfl | h1
  ·rcases h2 with e | h2
   ·simp only [Addr.mk.injEq] at e; omega
   ·exact absurd (bs _ _ h2).2 (Jc G hp)
  ·rcases h2 with rfl | h2
   ·exact absurd (bs _ _ h1).2 (Jc G hp)
   ·rw [inj _ _ _ h1 h2]
 ·rintro k k' l ⟨i,a,rfl,rfl,h1⟩ ⟨i',a',rfl,e,h2⟩
  cases e
  obtain ⟨r1,r2,r3,r4⟩:=rb _ _ h2
  rcases h1 with rfl | h1
  ·exact r3 rfl
  ·exact r4 (bs _ _ h1).2
 ·rintro k l ⟨i,a,rfl,rfl,h1⟩ hs
  rcases hs with ⟨a',e,hb⟩ | hs
  ·cases e
   rcases h1 with rfl | h1
   ·exact G.hCW hb
   ·rw [hb] at h1; exact Vq G hl (bs _ _ h1).2
  ·obtain ⟨a',e,hb⟩:=G.shun _ hs
   cases e
   rcases h1 with rfl | h1
   ·have:=G.bC; simp only at hb; omega
   ·have:=(bs _ _ h1).1; omega
 ·rintro k l ⟨i,a,rfl,rfl,h1⟩ hs
  obtain ⟨r1,r2,r3,r4⟩:=rb _ _ h1
  rcases hs with ⟨a',e,hb⟩ | hs
  ·cases e; exact r2 hb
  ·obtain ⟨a',e,hb⟩:=G.shun _ hs
   cases e; omega
theorem Com.apart (G : Geo c) (h : Com c w0 t0 Low j gs w t D Lw Bo RB d0) : Apart (Sh c) (Own c Bo) (Rd c RB) :=
 Qi G h.live h.pay (fun i b hb=>(h.bs i b hb).2) h.inj fun i b hb=>let ⟨_,h1,_,h2,h3,h4⟩:=h.rb i b hb; ⟨h1,h2,h3,h4⟩
theorem Com.seen (h : Com c w0 t0 Low j gs w t D Lw Bo RB d0) : ∀ op ∈ t,op.act.low w.heap.size:=by
 obtain ⟨u,rfl,hu⟩:=h.tr
 intro op hop
 rcases Array.mem_append.1 hop with hop | hop
 ·exact h.tr0 op hop
 ·exact (hu op hop).2.2
theorem Tx {B : Nat} {act : MemAct} {x : Touch} {a : Addr} (h : act.low B) (hx : act.touch? = some x) (ha : x.loc = .cell a) : a.block < B:=by
 cases act with
 | access e =>
  simp only [MemAct.touch?,Option.some.injEq] at hx
  subst hx
  obtain ⟨l,wr,sy⟩:=e
  simp only at ha
  subst ha
  exact h
 | mark m=>cases m <;> simp only [MemAct.touch?,Option.some.injEq,reduceCtorEq] at hx <;> (subst hx; cases ha; exact h)
 | _=>simp [MemAct.touch?] at hx
theorem CT.grow {J : Nat} (h : CT (Sh c) (Own c Bo) (Rd c RB) t J) (hseen : ∀ op ∈ t,op.act.low w.heap.size) (hB : ∀ i b,Bo i = some b -> Bo' i = some b) (hN : ∀ i b,Bo' i = some b -> Bo i = some b \/ w.heap.size <= b) :
  CT (Sh c) (Own c Bo') (Rd c RB) t J:=by
 have up : ∀ k l,Own c Bo k l -> Own c Bo' k l:=by
  rintro k l ⟨i,a,h1,h2,h3 | h3⟩
  ·exact ⟨i,a,h1,h2,.inl h3⟩
  ·exact ⟨i,a,h1,h2,.inr (hB _ _ h3)⟩
 have down : ∀ k l,Own c Bo' k l -> Own c Bo k l \/ ∀ i x,touchAt t i = some x -> x.loc ≠ l:=by
  rintro k l ⟨i,a,h1,rfl,h3 | h3⟩
  ·exact .inl ⟨i,a,h1,rfl,.inl h3⟩
  ·rcases hN _ _ h3 with h4 | h4
   ·exact .inl ⟨i,a,h1,rfl,.inr h4⟩
   ·refine .inr fun i x hx e=>?_
    obtain ⟨op,ho,hox⟩:=touch_of hx
    have:=Tx (hseen op (Array.mem_of_getElem? ho)) hox e
    omega
 refine ⟨h.quiet,fun k k1 kj l hl=>?_,h.rd,fun l hs hl=>h.free l hs fun k k1 kj=>⟨fun x=>(hl k k1 kj).1 (up k l x),(hl k k1 kj).2⟩,fun l hs hl=>h.mine l hs fun k k1 kj x=>hl k k1 kj (up k l x),h.nr,h.gs⟩
 rcases down k l hl with h' | h'
 ·exact h.own k k1 kj l h'
 ·exact fun i x hx e=>absurd e (h' i x hx)
/-! ### a worker's entries -/
def EvK (c : Cfg) (Bo : Nat -> Option Nat) (i Low : Nat) (w : World) (e : Event) : Prop :=
 EvR c Low w e \/ (∃ (a : Addr) (x : Bool),e = ⟨.cell a,x,false⟩ /\ (a = ⟨c.C,i,none⟩ \/ Bo i = some a.block)) \/ Bk c.Wg e \/ e = mk (.releaseMerge (stA c.Wg))
theorem D6 {e : Event} (h : Neutral e) : (MemAct.ofEvent e).touch? = none /\ ∀ B,(MemAct.ofEvent e).low B:=by
 obtain ⟨loc,wr,sy⟩:=e
 rcases h with h | ⟨f,h⟩ <;> (simp only at h; subst h; exact ⟨rfl,fun _=>trivial⟩)
theorem Eu (a : Addr) (x : Bool) : MemAct.ofEvent ⟨.cell a,x,false⟩ = .access ⟨.cell a,x,false⟩:=rfl
theorem Hw {e : Event} (h : Bk c.Wg e) : (∀ x,(MemAct.ofEvent e).touch? = some x -> (∃ a : Addr,x.loc = .cell a /\ a.block = c.Wg) /\ x.kind = .atomic) /\ ∀ B,c.Wg < B -> (MemAct.ofEvent e).low B:=by
 obtain ⟨loc,wr,sy⟩:=e
 rcases h with h | h | ⟨a,y,h,ha⟩
 ·simp only at h; subst h; exact ⟨fun x hx=>by simp [MemAct.ofEvent,MemAct.touch?] at hx,fun _ _=>trivial⟩
 ·simp only at h; subst h; exact ⟨fun x hx=>by simp [MemAct.ofEvent,MemAct.touch?] at hx,fun _ _=>trivial⟩
 ·cases h
  refine ⟨fun x hx=>?_,fun B hB=>?_⟩
  ·simp only [MemAct.ofEvent,MemAct.touch?,Option.some.injEq,if_true] at hx
   subst hx
   exact ⟨⟨a,rfl,ha⟩,rfl⟩
  ·show a.block < B
   omega
theorem Qh {e : Event} (h : Bk c.Wg e) : e.loc ≠ .mark (.release (stA c.Wg)):=by
 rcases h with h | h | ⟨a,y,rfl,_⟩
 ·rw [h]; simp
 ·rw [h]; simp
 ·simp
theorem Fv {e : Event} (h : Neutral e) : e.loc ≠ .mark (.release (stA c.Wg)) /\ e.loc ≠ .mark .disable /\ e.loc ≠ .mark .enable:=by
 rcases h with h | ⟨f,h⟩ <;> rw [h] <;> simp
theorem Af3 {i L : Nat} {e : Event} (h : EvK c Bo i L w e) : e.loc ≠ .mark (.release (stA c.Wg)):=by
 rcases h with (⟨a,rfl,_⟩ | h) | ⟨a,x,rfl,_⟩ | h | rfl
 ·simp
 ·exact (Fv h).1
 ·simp
 ·exact Qh h
 ·simp [mk]
theorem Aph {i : Nat} {fn : FuncId} {pos : String} {es : Array Event} (hrb : ∀ b,c.base <= b -> b < Lw i -> b ≠ c.Wg -> b ≠ c.C -> ¬ IsB c w b -> RB i b) (h : ∀ e ∈ es,EvK c Bo i (Lw i) w e) :
  ∀ op ∈ MemOp.ofEvents (c.o + i + 1) fn pos es,OkW (Sh c) (Own c Bo) (Rd c RB) (c.o + i + 1) op:=by
 intro op hop
 obtain ⟨e,he,rfl⟩:=Go.Conc.mem_ofEvents hop
 refine ⟨rfl,fun x hx=>?_⟩
 rcases h e he with (⟨a,rfl,h1,h2,h3,h4,h5⟩ | h) | ⟨a,y,rfl,h1⟩ | h | rfl
 ·simp only [Eu,MemAct.touch?,Option.some.injEq] at hx
  subst hx
  exact .inr (.inr ⟨⟨i,a,rfl,rfl,hrb _ h1 h2 h3 h4 h5⟩,rfl⟩)
 ·simp only [(D6 h).1] at hx; cases hx
 ·simp only [Eu,MemAct.touch?,Option.some.injEq] at hx
  subst hx
  exact .inr (.inl ⟨i,a,rfl,rfl,h1⟩)
 ·obtain ⟨⟨a,e1,e2⟩,hk⟩:=(Hw h).1 x hx
  refine .inl ⟨.inl ⟨a,e1,e2⟩,?_,?_⟩ <;> rw [hk] <;> simp
 ·simp [MemAct.ofEvent,mk,MemAct.touch?] at hx
theorem Apg {i B : Nat} {fn : FuncId} {pos : String} {es : Array Event} (hL : Lw i <= B) (hC : c.C < B) (hW : c.Wg < B) (hb : ∀ b,Bo i = some b -> b < B) (h : ∀ e ∈ es,EvK c Bo i (Lw i) w e) :
  ∀ op ∈ MemOp.ofEvents (c.o + i + 1) fn pos es,Adz c B op:=by
 intro op hop
 obtain ⟨e,he,rfl⟩:=Go.Conc.mem_ofEvents hop
 refine ⟨.inr (.inl (by show c.o < c.o + i + 1; omega)),fun x hx=>?_,?_⟩
 ·rcases h e he with (⟨a,rfl,_⟩ | h) | ⟨a,y,rfl,_⟩ | h | rfl
  ·simp only [Eu,MemAct.touch?,Option.some.injEq] at hx
   subst hx
   exact ⟨rfl,fun e=>by simp at e⟩
  ·simp only [(D6 h).1] at hx; cases hx
  ·simp only [Eu,MemAct.touch?,Option.some.injEq] at hx
   subst hx
   exact ⟨rfl,fun e=>by simp at e⟩
  ·obtain ⟨⟨a,e1,e2⟩,hk⟩:=(Hw h).1 x hx
   exact ⟨by rw [e1]; rfl,fun _=>⟨a,e1,e2⟩⟩
  ·simp [MemAct.ofEvent,mk,MemAct.touch?] at hx
 ·rcases h e he with (⟨a,rfl,_,h2,_⟩ | h) | ⟨a,y,rfl,h1⟩ | h | rfl
  ·show a.block < B
   omega
  ·exact (D6 h).2 B
  ·show a.block < B
   rcases h1 with rfl | h1
   ·exact hC
   ·exact hb _ h1
  ·exact (Hw h).2 B hW
  ·exact hW
theorem Tq {B B' : Nat} (h : B <= B') {op : MemOp} (hop : Adz c B op) : Adz c B' op:=⟨hop.1,hop.2.1,MemAct.low_mono h hop.2.2⟩
theorem Kr (f : Goroutine -> Goroutine) (a : Nat) (x : Goroutine) (b : Nat) (hb : a ≠ b) : ((gs.map f).setIfInBounds a x)[b]? = (gs[b]?).map f:=by
 rw [Array.getElem?_setIfInBounds_ne hb,Array.getElem?_map]
theorem G9 (f : Goroutine -> Goroutine) (a : Nat) (x : Goroutine) (ha : a < gs.size) : ((gs.map f).setIfInBounds a x)[a]? = some x:=by
 simp [ha]
theorem woken_quits {q d : Nat} {g : Goroutine} (h : QuitsD c.P q d g) (a a' : Goroutine) (u : World) : woken c.P a a' u g = g:=woken_quitsD h
theorem Com.stepW (G : Geo c) (h : Com c w0 t0 Low j gs w t D Lw Bo RB d0) {i : Nat} (hi : i < j) {g g' : Goroutine} {fn : FuncId} {pos : String} {es : Array Event} {s' m' dd' : Nat}
  (hst : Stp c w w') (hnb : ∀ b,b < w.heap.size -> b ≠ c.Wg -> b ≠ c.C -> ¬ IsB c w b -> ¬ IsB c w' b)
  (hrx : ∀ i',i' < j -> i' ≠ i -> RX c (Lw i') i' (fun b=>Bo i' = some b) w w') (hs' : WX c i (Lw i) (Bo' i) s' m' dd' g' w')
  (hBo : ∀ i',i' ≠ i -> Bo' i' = Bo i') (hB1 : ∀ b,Bo i = some b -> Bo' i = some b) (hB2 : ∀ b,Bo' i = some b -> (Bo i = some b \/ w.heap.size <= b) /\ c.base <= b /\ IsB c w' b)
  (hev : ∀ e ∈ es,EvK c Bo' i (Lw i) w e) (hdeaf : deafBehind (D (c.o + i)).deaf es = dd')
  (hrel : s' <= 6 -> ∃ r,RelBy (stA c.Wg) (t ++ MemOp.ofEvents (c.o + i + 1) fn pos es) (c.o + i + 1) r) (hpay : PayAt c.C c.n w') (hlive : WgLive c.ty c.Wg w') :
  Com c w0 t0 Low j ((gs.map (woken c.P g g' w')).setIfInBounds (c.o + i + 1) g') w' (t ++ MemOp.ofEvents (c.o + i + 1) fn pos es) (upd D (c.o + i) ⟨s',m',dd'⟩) Lw Bo' RB d0:=by
 have hseen:=h.seen
 have hBall : ∀ i' b,Bo i' = some b -> Bo' i' = some b:=fun i' b hb=>by
  by_cases e : i' = i
  ·subst e; exact hB1 b hb
  ·rw [hBo i' e]; exact hb
 have hN : ∀ i' b,Bo' i' = some b -> Bo i' = some b \/ w.heap.size <= b:=fun i' b hb=>by
  by_cases e : i' = i
  ·subst e; exact (hB2 b hb).1
  ·rw [hBo i' e] at hb; exact .inl hb
 have hbs : ∀ i' b,Bo' i' = some b -> i' < j /\ c.base <= b /\ IsB c w' b:=fun i' b hb=>by
  by_cases e : i' = i
  ·subst e; exact ⟨hi,(hB2 b hb).2⟩
  ·rw [hBo i' e] at hb
   obtain ⟨h1,h2,h3⟩:=h.bs i' b hb
   exact ⟨h1,h2,hst.isb b h3⟩
 have hinj : ∀ i' i'' b,Bo' i' = some b -> Bo' i'' = some b -> i' = i'':=fun i' i'' b h1 h2=>by
  rcases hN _ _ h1 with k1 | k1 <;> rcases hN _ _ h2 with k2 | k2
  ·exact h.inj _ _ _ k1 k2
  ·have:=(h.bs _ _ k1).2.2.lt; omega
  ·have:=(h.bs _ _ k2).2.2.lt; omega
  ·by_cases e1 : i' = i
   ·by_cases e2 : i'' = i
    ·rw [e1,e2]
    ·rw [hBo i'' e2] at h2; have:=(h.bs _ _ h2).2.2.lt; omega
   ·rw [hBo i' e1] at h1; have:=(h.bs _ _ h1).2.2.lt; omega
 have hrb : ∀ i' b,RB i' b -> i' < j /\ c.base <= b /\ b < Lw i' /\ b ≠ c.Wg /\ b ≠ c.C /\ ¬ IsB c w' b:=fun i' b hb=>by
  obtain ⟨h1,h2,h3,h4,h5,h6⟩:=h.rb i' b hb
  exact ⟨h1,h2,h3,h4,h5,hnb b (by have:=h.low i' h1; have:=h.lowS; omega) h4 h5 h6⟩
 have hA : Apart (Sh c) (Own c Bo') (Rd c RB):=Qi G hlive hpay (fun i b hb=>(hbs i b hb).2) hinj fun i b hb=>let ⟨_,h1,_,h2,h3,h4⟩:=hrb i b hb; ⟨h1,h2,h3,h4⟩
 refine ⟨by simp [h.size],fun i' hi'=>?_,fun i' hi'=>?_,h.low,Nat.le_trans h.lowS hst.size,h.lowW,h.lowC,h.lowB,hbs,hinj,hrb,fun i' b h1 h2 h3 h4 h5 h6=>h.rb' i' b h1 h2 h3 h4 h5 (fun x=>h6 (hst.isb b x)),hlive,hpay,
  (CT.grow h.ct hseen hBall hN).appW hA (by omega) (by omega) (Aph (Lw:=Lw) (fun b h1 h2 h3 h4 h5=>h.rb' i b hi h1 h2 h3 h4 h5) hev),h.norel.app (Go.ConcN.norel_of fun e he=>Af3 (hev e he)),by rw [Deaf_other t (by omega) _ g_of_ofEvents,h.deaf0],fun i' hi'=>?_,fun i' hi' hs=>?_,fun b hb=>(hst.frame b hb).trans (h.frame b hb),?_,fun op hop=>MemAct.low_mono hst.size (h.tr0 op hop),hst.tidy h.tidy,⟨hst.os.1.trans h.os.1,hst.os.2.trans h.os.2⟩⟩
 ·obtain ⟨x,hx,h1,h2⟩:=h.old i' hi'
  refine ⟨x,?_,?_,?_⟩
  ·rw [Kr _ _ _ _ (by omega),hx,Option.map_some,woken_quits h2]
  ·rw [upd_ne D _ (by omega)]; exact h1
  ·rw [upd_ne D _ (by omega)]; exact h2
 ·by_cases e : i' = i
  ·subst e
   exact ⟨g',G9 _ _ _ (by rw [h.size]; omega),by rw [upd_same]; exact hs'⟩
  ·obtain ⟨x,hx,hsx⟩:=h.wk i' hi'
   refine ⟨x,?_,?_⟩
   ·rw [Kr _ _ _ _ (by omega),hx,Option.map_some,hsx.woken]
   ·rw [upd_ne D _ (by omega),hBo i' e]
    exact hsx.rely G.out (hrx i' hi' e)
 ·by_cases e : i' = c.o + i
  ·subst e; rw [Deaf_own,h.deafW _ hi',upd_same]; exact hdeaf
  ·rw [Deaf_other t (by omega) _ g_of_ofEvents,h.deafW i' hi',upd_ne D _ e]
 ·by_cases e : i' = i
  ·subst e; rw [upd_same] at hs; exact hrel hs
  ·rw [upd_ne D _ (by omega)] at hs
   obtain ⟨r,hr⟩:=h.rel i' hi' hs
   exact ⟨r,hr.appOther g_of_ofEvents (by omega)⟩
 ·obtain ⟨u,rfl,hu⟩:=h.tr
  refine ⟨u ++ MemOp.ofEvents (c.o + i + 1) fn pos es,by rw [Array.append_assoc],fun op hop=>?_⟩
  rcases Array.mem_append.1 hop with hop | hop
  ·exact Tq hst.size (hu op hop)
  ·have h1:=h.low i hi
   have h2:=h.lowS
   have h3:=hst.size
   have h4:=h.lowC
   have h5:=h.lowW
   exact Apg (Lw:=Lw) (B:=w'.heap.size) (by omega) (by omega) (by omega) (fun b hb=>(hbs i b hb).2.2.lt) hev op hop
end
end Go.Phase
