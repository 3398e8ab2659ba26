import Derived.Conc.CrowdRun
import Derived.Test.YtbephahokhnccaaGreatDoorJ2
set_option linter.all false
namespace Go.Phase
variable{es:aA}{gs:Array K2}{fn:FuncId}{a':K2}{Low j d0:Nat}{Lw:Nat->Nat}{Bo:Nat->Option Nat}{pos:String}{t t0:Trace}{w w0:WR}
section
open Go.Conc Go.Lift
open Go.ConcN (WgLive PayAt Has AtR0 AtK1 WSit RW CTag CT Apart OkW Ok0 ShN RelBy)
open Go.ConcR (KK wgBlock WgAt stA smA rd wr mk Payload Bk g_of_ofEvents)
variable [Payload]
section
structure iF where
 P:Program
 ty:TypeId
 tb:TypeId
 Wg:Nat
 C:Nat
 n:Nat
 base:Nat
 o:Nat
 Shun:Loc->Prop
 Out:Nat->Nat->World->Prop
 Anch:Nat->Goroutine->World->Prop
 Then:Goroutine->World->Prop
section
variable (c:iF)
def jN(w:WR)(b:Nat):Prop:=∃x f,w.heap[b]?=some (.cells x c.tb f)
def Tidy(w:WR):Prop:=∀(b:Nat) (o:Obj),c.base<=b->w.heap[b]?=some o->∃x e,o=.cells x e
structure RX (Low i:Nat) (own:Nat->Prop) (w w₁:World):Prop where
 size:w.heap.size<=w₁.heap.size
 eT:∀b,b<Low->b≠c.Wg->b≠c.C->¬jN c w b->w₁.heap[b]?=w.heap[b]?
 mine:∀b,own b->w₁.heap[b]?=w.heap[b]?
 live:WgLive c.ty c.Wg w->WgLive c.ty c.Wg w₁
 pay:PayAt c.C c.n w->PayAt c.C c.n w₁
 cell:w₁.cell? ⟨c.C,i,none⟩=w.cell? ⟨c.C,i,none⟩
structure R0 (w w₁:World):Prop where
 size:w.heap.size<=w₁.heap.size
 eT:∀b,b<w.heap.size->b≠c.Wg->b≠c.C->¬jN c w b->w₁.heap[b]?=w.heap[b]?
 live:WgLive c.ty c.Wg w->WgLive c.ty c.Wg w₁
def Neutral(e:Event):Prop:=e.loc=.mark .noRoom\/∃f,e.loc=.mark (.extern f)
def yk(Low:Nat)(w:WR)(e:Event):Prop:=
 (∃a:Addr,e=⟨.cell a,false,false⟩/\c.base<=a.block/\a.block<Low/\a.block≠c.Wg/\a.block≠c.C/\¬jN c w a.block)\/Neutral e
def DA(Low:Nat)(w a:WR)(b:aA):Prop:=(∃d,a=w.at d)/\∀e∈b,yk c Low w e
structure DB (Low b i:Nat) (w w':World) (es:Array Event):Prop where
 size:w'.heap.size=w.heap.size
 block:∀b',b'≠b->b'≠c.C->w'.heap[b']?=w.heap[b']?
 ym:jN c w b->jN c w' b
 pay:PayAt c.C c.n w->PayAt c.C c.n w'
 cells:∀i',i'≠i->w'.cell? ⟨c.C,i',none⟩=w.cell? ⟨c.C,i',none⟩
 ev:∀e∈es,yk c Low w e\/∃(a:Addr) (x:Bool),e=⟨.cell a,x,false⟩/\(a.block=b\/a=⟨c.C,i,none⟩)
 tidy:Tidy c w->Tidy c w'
 os:w'.os=w.os/\w'.output=w.output
def DS(i b:Nat)(g:K2)(w:WR):Prop:=(∃v,AtR0 c.P c.ty c.Wg c.C c.n 0 (i+1) v g w)/\c.Out i b w
def made(w:WR)(x:Ff):WR:={w with heap:=w.heap.push (.cells x c.tb)}
def uP(Low i d:Nat)(g:K2)(w:WR):Prop:=
 g.status=.running/\∃b x a,stepG c.P false g w=.go b (made c w x) a/\(∀e∈a,Neutral e)/\
  Goes c.P false (RX c Low i (· =w.heap.size)) (DB c Low w.heap.size i) (DS c i w.heap.size) d b (made c w x)
def Works(i Low:Nat)(g:K2)(w:WR):Prop:=∃m a,Goes c.P false (RX c Low i (fun _=>False)) (DA c Low) (uP c Low i a) m g w
def Ev0(Low:Nat)(w:WR)(e:Event):Prop:=
 (∃(a:Addr) (x:Bool),e=⟨.cell a,x,false⟩/\a.block≠c.Wg/\a.block≠c.C/\¬jN c w a.block/\¬c.Shun (.cell a)/\(x=true->Low<=a.block)/\a.block<w.heap.size)\/
 (∃a:Addr,(e=⟨.mark (.read a),false,true⟩\/e=⟨.mark (.write a),false,true⟩)/\a.block=c.Wg)\/Neutral e
structure D0 (Low:Nat) (w w':World) (es:Array Event):Prop where
 size:w.heap.size<=w'.heap.size
 eT:∀b,b<w.heap.size->b<Low\/jN c w b->w'.heap[b]?=w.heap[b]?
 ev:∀e∈es,Ev0 c Low w e
 tidy:Tidy c w->Tidy c w'
 os:w'.os=w.os/\w'.output=w.output
section
variable (Low:Nat)
def AtAcq(g:K2)(w:WR):Prop:=
 g.status=.running/\∃a,stepG c.P true g w=.go a w #[mk (.acquire (stA c.Wg))]/\c.Then a w
def AtKe(g:K2)(w:WR):Prop:=
 g.status=.running/\∃a,stepG c.P true g w=.go a w #[mk .enable]/\∃m,Goes c.P true (R0 c) (D0 c Low) (AtAcq c) m a w
def AtW4(g:K2)(w:WR):Prop:=
 g.status=.running/\(WgAt c.ty c.Wg w 0 0->∃a,stepG c.P true g w=.go a w #[rd (stA c.Wg)]/\∃m,Goes c.P true (R0 c) (D0 c Low) (AtKe c Low) m a w)
def AtW3(g:K2)(w:WR):Prop:=
 g.status=.running/\g.offers=none/\
  ((∃b,WgAt c.ty c.Wg w b 0)->stepG c.P true g w=.go {g with status:=.blocked} w #[])/\
  (WgAt c.ty c.Wg w 0 1->∃a,stepG c.P true g w=.go a (w.setCell (smA c.Wg) (.int .u32 0)) (semEvents (smA c.Wg))/\∃m,Goes c.P true (R0 c) (D0 c Low) (AtW4 c Low) m a (w.setCell (smA c.Wg) (.int .u32 0)))
def AtW2(b:Nat)(g:K2)(w:WR):Prop:=
 g.status=.running/\∀v:Nat,v<2147483648->WgAt c.ty c.Wg w (v*KK) 0->
  (v=b->∃a,stepG c.P true g w=.go a (w.setCell (stA c.Wg) (.int .u64 (v*KK+1))) #[rd (stA c.Wg),wr (stA c.Wg)]/\∃m,Goes c.P true (R0 c) (D0 c Low) (AtW3 c Low) m a (w.setCell (stA c.Wg) (.int .u64 (v*KK+1))))/\
  (v≠b->∃a,stepG c.P true g w=.go a w #[rd (stA c.Wg)]/\∃m,Goes c.P true (R0 c) (D0 c Low) (c.Anch Low) m a w)
def AtW1(g:K2)(w:WR):Prop:=
 g.status=.running/\∀v:Nat,v<2147483648->WgAt c.ty c.Wg w (v*KK) 0->∃a,stepG c.P true g w=.go a w #[rd (stA c.Wg)]/\
  (v=0->∃m,Goes c.P true (R0 c) (D0 c Low) (AtKe c Low) m a w)/\(v≠0->∃m,Goes c.P true (R0 c) (D0 c Low) (AtW2 c Low v) m a w)
def AtKd(g:K2)(w:WR):Prop:=
 g.status=.running/\∃a,stepG c.P true g w=.go a w #[mk .disable]/\∃m,Goes c.P true (R0 c) (D0 c Low) (c.Anch Low) m a w
variable (i:Nat) (Next:WM)
def AtGo(g:K2)(w:WR):Prop:=
 g.status=.running/\∃b a,stepG c.P true g w=.spawn b a w #[]/\a.status=.running/\(PayAt c.C c.n w->Works c i w.heap.size a w)/\Next b w
def AtKeS(g:K2)(w:WR):Prop:=
 g.status=.running/\∃a,stepG c.P true g w=.go a w #[mk .enable]/\∃m,Goes c.P true (R0 c) (D0 c Low) (AtGo c i Next) m a w
def AtA1(g:K2)(w:WR):Prop:=
 g.status=.running/\∀v:Nat,v<2147483647->WgAt c.ty c.Wg w (v*KK) 0->
  ∃a,stepG c.P true g w=.go a (w.setCell (stA c.Wg) (.int .u64 ((v+1)*KK))) #[rd (stA c.Wg),wr (stA c.Wg)]/\
   ∃m,Goes c.P true (R0 c) (D0 c Low) (AtKeS c Low i Next) m a (w.setCell (stA c.Wg) (.int .u64 ((v+1)*KK)))
def AtKdS(g:K2)(w:WR):Prop:=
 g.status=.running/\∃a,stepG c.P true g w=.go a w #[mk .disable]/\∃m,Goes c.P true (R0 c) (D0 c Low) (AtA1 c Low i Next) m a w
end
def Spawns:Nat->WM
 |0,g,w=>∃m,Goes c.P true (R0 c) (D0 c w.heap.size) (AtKd c w.heap.size) m g w
 |r+1,g,w=>∃m,Goes c.P true (R0 c) (D0 c w.heap.size) (AtKdS c w.heap.size (c.n - (r+1)) (Spawns r)) m g w
inductive WX (i Low:Nat):Option Nat->Nat->Nat->Nat->Goroutine->World->Prop
 |a {m mB:Nat} {g:Goroutine} {w:World}:Goes c.P false (RX c Low i (fun _=>False)) (DA c Low) (uP c Low i mB) m g w->WX i Low none 7 (m+mB+1) 0 g w
 |b {b m:Nat} {g:Goroutine} {w:World}:Goes c.P false (RX c Low i (· =b)) (DB c Low b i) (DS c i b) m g w->WX i Low (some b) 7 m 0 g w
 |c {b:Nat} {v:Value} {s m d:Nat} {g:Goroutine} {w:World}:s<=6->WSit c.P c.ty c.Wg c.C c.n (fun _ _=>False) (fun _ _=>False) 0 (i+1) v s m d g w->c.Out i b w->WX i Low (some b) s m d g w
section
variable (Low:Nat)
inductive CX:CTag->Nat->Nat->Nat->Goroutine->World->Prop
 |skd {r m:Nat} {g:Goroutine} {w:World}:r<c.n->Goes c.P true (R0 c) (D0 c Low) (AtKdS c Low (c.n - (r+1)) (Spawns c r)) m g w->CX (.sp r 5) (c.n - (r+1)) m 0 g w
 |sa1 {r m:Nat} {g:Goroutine} {w:World}:r<c.n->Goes c.P true (R0 c) (D0 c Low) (AtA1 c Low (c.n - (r+1)) (Spawns c r)) m g w->CX (.sp r 4) (c.n - (r+1)) m 1 g w
 |ske {r m:Nat} {g:Goroutine} {w:World}:r<c.n->Goes c.P true (R0 c) (D0 c Low) (AtKeS c Low (c.n - (r+1)) (Spawns c r)) m g w->CX (.sp r 3) (c.n - (r+1)) m 1 g w
 |sgo {r m:Nat} {g:Goroutine} {w:World}:r<c.n->Goes c.P true (R0 c) (D0 c Low) (AtGo c (c.n - (r+1)) (Spawns c r)) m g w->CX (.sp r 2) (c.n - (r+1)) m 0 g w
 |kd {m:Nat} {g:Goroutine} {w:World}:Goes c.P true (R0 c) (D0 c Low) (AtKd c Low) m g w->CX .kd c.n m 0 g w
 |anch {m:Nat} {g:Goroutine} {w:World}:Goes c.P true (R0 c) (D0 c Low) (c.Anch Low) m g w->CX .anch c.n m 1 g w
 |w1 {m:Nat} {g:Goroutine} {w:World}:Goes c.P true (R0 c) (D0 c Low) (AtW1 c Low) m g w->CX .w1 c.n m 1 g w
 |w2 {vs m:Nat} {g:Goroutine} {w:World}:Goes c.P true (R0 c) (D0 c Low) (AtW2 c Low vs) m g w->CX (.w2 vs) c.n m 1 g w
 |w3 {m:Nat} {g:Goroutine} {w:World}:Goes c.P true (R0 c) (D0 c Low) (AtW3 c Low) m g w->CX .w3 c.n (m+1) 1 g w
 |blk {g:Goroutine} {w:World}:(∀w₁,R0 c w w₁->AtW3 c Low g w₁)->CX .blk c.n 0 1 {g with status:=.blocked} w
 |w4 {m:Nat} {g:Goroutine} {w:World}:Goes c.P true (R0 c) (D0 c Low) (AtW4 c Low) m g w->CX .w4 c.n m 1 g w
 |ke {m:Nat} {g:Goroutine} {w:World}:Goes c.P true (R0 c) (D0 c Low) (AtKe c Low) m g w->CX .ke c.n m 1 g w
 |acq {m:Nat} {g:Goroutine} {w:World}:Goes c.P true (R0 c) (D0 c Low) (AtAcq c) m g w->CX .acq c.n m 0 g w
end
end
section
variable {c:iF} {Low i:Nat} {own:Nat->Prop} {w w₁ w₂:WR}
def jN.of_block{b:Nat}(h:jN c w b)(e:w₁.heap[b]?=w.heap[b]?):jN c w₁ b:=let⟨x,f,a⟩:=h;⟨x,f,e.tr a⟩
def jN.lt{b:Nat}(h:jN c w b):b<w.heap.size:=by have⟨x,f,a⟩:=h;exact(aAu.1 a).1
def RX.refl(w:WR):RX c Low i own w w:=⟨aAz _,fun _ _ _ _ _=>rfl,fun _ _=>rfl,id,id,rfl⟩
def RX.trans(h:RX c Low i own w w₁)(k:RX c Low i own w₁ w₂):RX c Low i own w w₂:=
 ⟨aAw h.size k.size,fun b d a h3 h4=>(k.eT b d a h3 (fun x=>h4 (x.of_block (h.eT b d a h3 h4).symm))).tr (h.eT b d a h3 h4),fun b e=>(k.mine b e).tr (h.mine b e),k.live ∘ h.live,k.pay ∘ h.pay,k.cell.tr h.cell⟩
def RX.tr(h:RX c Low i own w w₁)(k:RX c Low i own w₁ w₂):RX c Low i own w w₂:=RX.trans h k
def RX.at(w:WR)(d:Nat):RX c Low i own w (w.at d):=⟨aAz _,fun _ _ _ _ _=>rfl,fun _ _=>rfl,id,id,rfl⟩
def RX.rw(h:RX c Low i own w w₁):RW c.ty c.Wg c.C c.n 0 i w w₁:=⟨fun b a=>absurd a (Nat.not_lt_zero b),h.live,h.pay,h.cell⟩
def R0.refl(w:WR):R0 c w w:=⟨aAz _,fun _ _ _ _ _=>rfl,id⟩
def R0.trans(h:R0 c w w₁)(k:R0 c w₁ w₂):R0 c w w₂:=
 ⟨aAw h.size k.size,fun b d a h3 h4=>(k.eT b (aAy d h.size) a h3 (fun x=>h4 (x.of_block (h.eT b d a h3 h4).symm))).tr (h.eT b d a h3 h4),k.live ∘ h.live⟩
def R0.tr(h:R0 c w w₁)(k:R0 c w₁ w₂):R0 c w w₂:=R0.trans h k
def R0.at(w:WR)(d:Nat):R0 c w (w.at d):=⟨aAz _,fun _ _ _ _ _=>rfl,id⟩
def GN:∀a b d:WR,R0 c a b->R0 c b d->R0 c a d:=fun _ _ _ h k=>h.tr k
def Ps:∀a b d:WR,RX c Low i own a b->RX c Low i own b d->RX c Low i own a d:=fun _ _ _ h k=>h.tr k
def WX.rely{l:Option Nat}{s m d:Nat}{g:K2}(j:∀i b w k,k.heap[b]?=w.heap[b]?->k.cell? ⟨c.C,i,none⟩=w.cell? ⟨c.C,i,none⟩->c.Out i b w->c.Out i b k)(h:WX c i Low l s m d g w)(f:RX c Low i (fun b=>l=some b) w w₁):WX c i Low l s m d g w₁:=by
 cases h with
 |a h=>exact .a (Goes.rely Ps h ⟨f.size,f.eT,fun _ x=>x.elim,f.live,f.pay,f.cell⟩)
 |b h=>exact .b (Goes.rely Ps h ⟨f.size,f.eT,fun o e=>f.mine o (by rw[e]),f.live,f.pay,f.cell⟩)
 | @c b _ _ _ _ _ _ p n h3=>exact .c p (n.rely f.rw) (j i b w w₁ (f.mine b rfl) f.cell h3)
def WX.status{e:Option Nat}{s m d:Nat}{g:K2}(h:WX c i Low e s m d g w):g.status=.running\/g.status=.finished:=by
 cases h with
 |a h=>exact .inl (Goes.running (fun _ _ x=>x.1) w (RX.refl w) h)
 |b h=>exact .inl (Goes.running (fun _ _ x=>x.1.elim fun _ y=>y.1) w (RX.refl w) h)
 |c _ h _=>exact h.status
def WX.woken{f:Option Nat}{s m d:Nat}{g:K2}(h:WX c i Low f s m d g w)(P:K5)(a e:K2)(b:WR):woken P a e b g=g:=by
 unfold Go.Conc.woken;split
 .exact again_running _ h.status
 .rfl
def CX.rely{tag:CTag}{j f d:Nat}{g:K2}(h:CX c Low tag j f d g w)(a:R0 c w w₁):CX c Low tag j f d g w₁:=by
 cases h with
 |skd b h=>exact .skd b (Goes.rely GN h a)
 |sa1 b h=>exact .sa1 b (Goes.rely GN h a)
 |ske b h=>exact .ske b (Goes.rely GN h a)
 |sgo b h=>exact .sgo b (Goes.rely GN h a)
 |kd h=>exact .kd (Goes.rely GN h a)
 |anch h=>exact .anch (Goes.rely GN h a)
 |w1 h=>exact .w1 (Goes.rely GN h a)
 |w2 h=>exact .w2 (Goes.rely GN h a)
 |w3 h=>exact .w3 (Goes.rely GN h a)
 |blk h=>exact .blk fun w₂ e=>h w₂ (a.tr e)
 |w4 h=>exact .w4 (Goes.rely GN h a)
 |ke h=>exact .ke (Goes.rely GN h a)
 |acq h=>exact .acq (Goes.rely GN h a)
def CX.status{tag:CTag}{j f d:Nat}{g:K2}(a:∀L g w,c.Anch L g w->g.status=.running)(h:CX c Low tag j f d g w):(g.status=.running/\tag≠.blk)\/(g.status=.blocked/\tag=.blk):=by
 have r:∀{S:WM} {m:Nat},(∀g w,S g w->g.status=.running)->Goes c.P true (R0 c) (D0 c Low) S m g w->g.status=.running:=fun b h=>Goes.running b w (R0.refl w) h;cases h with
 |skd _ h=>exact .inl ⟨r (fun _ _ x=>x.1) h,sI⟩
 |sa1 _ h=>exact .inl ⟨r (fun _ _ x=>x.1) h,sI⟩
 |ske _ h=>exact .inl ⟨r (fun _ _ x=>x.1) h,sI⟩
 |sgo _ h=>exact .inl ⟨r (fun _ _ x=>x.1) h,sI⟩
 |kd h=>exact .inl ⟨r (fun _ _ x=>x.1) h,sI⟩
 |anch h=>exact .inl ⟨r (a Low) h,sI⟩
 |w1 h=>exact .inl ⟨r (fun _ _ x=>x.1) h,sI⟩
 |w2 h=>exact .inl ⟨r (fun _ _ x=>x.1) h,sI⟩
 |w3 h=>exact .inl ⟨r (fun _ _ x=>x.1) h,sI⟩
 |blk _=>exact .inr ⟨rfl,rfl⟩
 |w4 h=>exact .inl ⟨r (fun _ _ x=>x.1) h,sI⟩
 |ke h=>exact .inl ⟨r (fun _ _ x=>x.1) h,sI⟩
 |acq h=>exact .inl ⟨r (fun _ _ x=>x.1) h,sI⟩
def CX.wokenBy{tag:CTag}{j f d:Nat}{a:K2}(p:∀L g w,c.Anch L g w->g.status=.running)(h:CX c Low tag j f d a w)(q:R0 c w w₁)(g l:K2):
  ∃b m,CX c Low b j m d (Go.Conc.woken c.P g l w₁ a) w₁/\m<=f+1/\(b=tag\/(tag=.blk/\b=.w3))/\(mayWake c.P g=true->l.status=.running->b≠.blk):=by
 have e:=h.rely q;unfold Go.Conc.woken;split
 .rcases e.status p with⟨r,i⟩| ⟨_,rfl⟩
  .refine⟨tag,f,?_,oM,.inl rfl,fun _ _=>i⟩;rw[again_running _ (.inl r)];exact e
  .cases e with
   |blk k=>
    have h3:=k w₁ (.refl w₁);refine⟨.w3,0+1,?_,oM,.inr ⟨rfl,rfl⟩,fun _ _=>sI⟩;rw[Go.ConcR.again_blocked h3.1 h3.2.1];exact .w3 (Goes.stop k)
 .rename_i s;exact⟨tag,f,e,oM,.inl rfl,fun o n=>absurd (by simp[o,n]) s⟩
def CX.bound{tag:CTag}{j f d:Nat}{g:K2}(h:CX c Low tag j f d g w):j+Go.ConcN.pend tag<=c.n:=by cases h<;>simp only[Go.ConcN.pend]<;>(try simp)<;>omega
end
end
end
section
open Go.Conc Go.Lift
open Go.ConcN (WgLive PayAt Has AtR0 AtK1 WSit RW CTag CT Apart OkW Ok0 ShN RelBy WD upd upd_same upd_ne PermW)
open Go.ConcR (KK wgBlock WgAt stA smA rd wr mk Payload Bk g_of_ofEvents)
variable [Payload]
section
section
variable (c:iF)
structure Geo:Prop where
 hCW:c.C≠c.Wg
 ty:c.ty≠c.tb
 ety:Payload.ety≠c.tb
 bC:c.base<=c.C
 bW:c.base<=c.Wg
 Dg:∀l,c.Shun l->∃a:Addr,l=.cell a/\a.block<c.base
 out:∀i b (w w':World),w'.heap[b]?=w.heap[b]?->w'.cell? ⟨c.C,i,none⟩=w.cell? ⟨c.C,i,none⟩->c.Out i b w->c.Out i b w'
 anch:∀L g w,c.Anch L g w->g.status=.running
def Sh(l:Loc):Prop:=ShN c.Wg l\/c.Shun l
def MB(Bo:Nat->Option Nat)(k:Nat)(l:Loc):Prop:=∃(i:Nat) (a:Addr),k=c.o+i+1/\l=.cell a/\(a=⟨c.C,i,none⟩\/Bo i=some a.block)
def Rd(RB:Nat->Nat->Prop)(k:Nat)(l:Loc):Prop:=∃(i:Nat) (a:Addr),k=c.o+i+1/\l=.cell a/\RB i a.block
def WV(B:Nat)(op:MemOp):Prop:=
 (op.g=0\/c.o<op.g\/op.act.touch?=none)/\(∀x,op.act.touch?=some x->x.loc.isMemory=true/\(x.kind=.atomic->ShN c.Wg x.loc))/\op.act.low B
structure Com (w0:World) (t0:Trace) (Low j:Nat) (gs:Array Goroutine) (w:World) (t:Trace) (D:Nat->WD) (Lw:Nat->Nat) (Bo:Nat->Option Nat) (RB:Nat->Nat->Prop) (d0:Nat):Prop where
 size:gs.size=c.o+j+1
 old:∀i,i<c.o->∃g,gs[i+1]?=some g/\(D i).stage=1/\QuitsD c.P (D i).fuel (D i).deaf g
 wk:∀i,i<j->∃g,gs[c.o+i+1]?=some g/\WX c i (Lw i) (Bo i) (D (c.o+i)).stage (D (c.o+i)).fuel (D (c.o+i)).deaf g w
 low:∀i,i<j->Lw i<=Low
 lH:Low<=w.heap.size
 BR:c.Wg<Low
 BS:c.C<Low
 GO:c.base<=Low
 bs:∀i b,Bo i=some b->i<j/\c.base<=b/\jN c w b
 inj:∀i i' b,Bo i=some b->Bo i'=some b->i=i'
 rb:∀i b,RB i b->i<j/\c.base<=b/\b<Lw i/\b≠c.Wg/\b≠c.C/\¬jN c w b
 Fa:∀i b,i<j->c.base<=b->b<Lw i->b≠c.Wg->b≠c.C->¬jN c w b->RB i b
 live:WgLive c.ty c.Wg w
 pay:PayAt c.C c.n w
 ct:CT (Sh c) (MB c Bo) (Rd c RB) t (c.o+j)
 norel:NoRelease (stA c.Wg) t
 deaf0:Deaf t 0=d0
 deafW:∀i,i<c.o+j->Deaf t (i+1)=(D i).deaf
 rel:∀i,i<j->(D (c.o+i)).stage<=6->∃r,RelBy (stA c.Wg) t (c.o+i+1) r
 frame:∀b,b<c.base->w.heap[b]?=w0.heap[b]?
 tr:∃u,t=t0++u/\∀op∈u,WV c w.heap.size op
 GN:∀op∈t0,op.act.low w.heap.size
 tidy:Tidy c w
 os:w.os=w0.os/\w.output=w0.output
structure mI (w w':World):Prop where
 size:w.heap.size<=w'.heap.size
 ym:∀b,jN c w b->jN c w' b
 frame:∀b,b<c.base->w'.heap[b]?=w.heap[b]?
 tidy:Tidy c w->Tidy c w'
 os:w'.os=w.os/\w'.output=w.output
end
section
variable {c:iF} {w0 w w':WR} {t0 t:Trace} {Low j:Nat} {gs:Array K2} {D:Nat->WD} {Lw:Nat->Nat} {Bo Bo':Nat->Option Nat} {RB:Nat->Nat->Prop} {d0:Nat}
def GP(G:Geo c)(h:WgLive c.ty c.Wg w):¬jN c w c.Wg:=by rintro⟨x,f,a⟩;have⟨d,sm,b⟩:=h;unfold WgAt wgBlock at b;rw[b] at a;simp only[aAF,Obj.cells.injEq] at a;exact G.ty a.2.1
def oL(G:Geo c)(h:PayAt c.C c.n w):¬jN c w c.C:=by rintro⟨x,f,a⟩;have⟨d,b,_⟩:=h;rw[b] at a;simp only[aAF,Obj.cells.injEq] at a;exact G.ety a.2.1
def zR(G:Geo c)(t:WgLive c.ty c.Wg w)(q:PayAt c.C c.n w)(j:∀i b,Bo i=some b->c.base<=b/\jN c w b)(inj:∀i n b,Bo i=some b->Bo n=some b->i=n)(r:∀i b,RB i b->c.base<=b/\b≠c.Wg/\b≠c.C/\¬jN c w b):Apart (Sh c) (MB c Bo) (Rd c RB):=by
 refine⟨?_,?_,?_,?_⟩
 .rintro k s l ⟨i,a,rfl,rfl,d⟩ ⟨n,m,rfl,e,f⟩;cases e;rcases d with rfl|d
  .rcases f with e|f
   .simp only[Addr.mk.injEq] at e;omega
   .exact absurd (j _ _ f).2 (oL G q)
  .rcases f with rfl|f
   .exact absurd (j _ _ d).2 (oL G q)
   .rw[inj _ _ _ d f]
 .rintro k s l ⟨i,a,rfl,rfl,d⟩ ⟨n,m,rfl,e,f⟩;cases e;have⟨r1,r2,o,p⟩:=r _ _ f;rcases d with rfl|d
  .exact o rfl
  .exact p (j _ _ d).2
 .rintro k l ⟨i,a,rfl,rfl,d⟩ h;rcases h with⟨m,e,g⟩|h
  .cases e;rcases d with rfl|d
   .exact G.hCW g
   .rw[g] at d;exact GP G t (j _ _ d).2
  .have⟨m,e,g⟩:=G.Dg _ h;cases e;rcases d with rfl|d
   .have:=G.bC;simp only at g;omega
   .have:=(j _ _ d).1;omega
 .rintro k l ⟨i,a,rfl,rfl,d⟩ h;have⟨r1,r2,o,p⟩:=r _ _ d;rcases h with⟨m,e,g⟩|h
  .cases e;exact r2 g
  .have⟨m,e,g⟩:=G.Dg _ h;cases e;omega
def Com.apart(G:Geo c)(h:Com c w0 t0 Low j gs w t D Lw Bo RB d0):Apart (Sh c) (MB c Bo) (Rd c RB):=
 zR G h.live h.pay (fun i b a=>(h.bs i b a).2) h.inj fun i b a=>let⟨_,e,_,d,h3,h4⟩:=h.rb i b a;⟨e,d,h3,h4⟩
def Com.seen(h:Com c w0 t0 Low j gs w t D Lw Bo RB d0):∀op∈t,op.act.low w.heap.size:=by
 obtain⟨u,rfl,b⟩:=h.tr;intro op a;rcases aBC.1 a with a|a
 .exact h.GN op a
 .exact(b op a).2.2
def DT{B:Nat}{b:MemAct}{x:Touch}{a:Addr}(h:b.low B)(c:b.touch?=some x)(d:x.loc=.cell a):a.block<B:=by
 cases b with
 |access e=>
  simp only[MemAct.touch?,aAF] at c;subst c;have⟨l,wr,f⟩:=e;simp only at d;subst d;exact h
 |mark m=>cases m<;>simp only[MemAct.touch?,aAF,reduceCtorEq] at c<;>(subst c;cases d;exact h)
 |_=>simp[MemAct.touch?] at c
def CT.grow{J:Nat}(h:CT (Sh c) (MB c Bo) (Rd c RB) t J)(d:∀op∈t,op.act.low w.heap.size)(s:∀i b,Bo i=some b->Bo' i=some b)(u:∀i b,Bo' i=some b->Bo i=some b\/w.heap.size<=b):
  CT (Sh c) (MB c Bo') (Rd c RB) t J:=by
 have up:∀k l,MB c Bo k l->MB c Bo' k l:=by
  rintro k l ⟨i,a,j,q,h3|h3⟩
  .exact⟨i,a,j,q,.inl h3⟩
  .exact⟨i,a,j,q,.inr (s _ _ h3)⟩
 have down:∀k l,MB c Bo' k l->MB c Bo k l\/∀i x,touchAt t i=some x->x.loc≠l:=by
  rintro k l ⟨i,a,j,rfl,h3|h3⟩
  .exact .inl ⟨i,a,j,rfl,.inl h3⟩
  .rcases u _ _ h3 with h4|h4
   .exact .inl ⟨i,a,j,rfl,.inr h4⟩
   .refine .inr fun i x p e=>?_;have⟨op,r,m⟩:=touch_of p;have:=DT (d op (aBu r)) m e;omega
 refine⟨h.quiet,fun k k1 f l g=>?_,h.rd,fun l o g=>h.free l o fun k k1 f=>⟨fun x=>(g k k1 f).1 (up k l x),(g k k1 f).2⟩,fun l o g=>h.mine l o fun k k1 f x=>g k k1 f (up k l x),h.nr,h.gs⟩;rcases down k l g with n|n
 .exact h.own k k1 f l n
 .exact fun i x p e=>absurd e (n i x p)
def Ll(c:iF)(Bo:Nat->Option Nat)(i Low:Nat)(w:WR)(e:Event):Prop:=
 yk c Low w e\/(∃(a:Addr) (x:Bool),e=⟨.cell a,x,false⟩/\(a=⟨c.C,i,none⟩\/Bo i=some a.block))\/Bk c.Wg e\/e=mk (.releaseMerge (stA c.Wg))
def fP{e:Event}(h:Neutral e):(MemAct.ofEvent e).touch?=none/\∀B,(MemAct.ofEvent e).low B:=by have⟨a,wr,b⟩:=e;rcases h with h| ⟨f,h⟩<;>(simp only at h;subst h;exact⟨rfl,fun _=>trivial⟩)
def gO(a:Addr)(x:Bool):MemAct.ofEvent ⟨.cell a,x,false⟩=.access ⟨.cell a,x,false⟩:=rfl
def mG{e:Event}(h:Bk c.Wg e):(∀x,(MemAct.ofEvent e).touch?=some x->(∃a:Addr,x.loc=.cell a/\a.block=c.Wg)/\x.kind=.atomic)/\∀B,c.Wg<B->(MemAct.ofEvent e).low B:=by
 have⟨f,wr,i⟩:=e;rcases h with h|h| ⟨a,y,h,d⟩
 .simp only at h;subst h;exact⟨fun x b=>by simp[MemAct.ofEvent,MemAct.touch?] at b,fun _ _=>trivial⟩
 .simp only at h;subst h;exact⟨fun x b=>by simp[MemAct.ofEvent,MemAct.touch?] at b,fun _ _=>trivial⟩
 .cases h;refine⟨fun x b=>?_,fun B g=>?_⟩
  .simp only[MemAct.ofEvent,MemAct.touch?,aAF,if_true] at b;subst b;exact⟨⟨a,rfl,d⟩,rfl⟩
  .show a.block<B;omega
def zS{e:Event}(h:Bk c.Wg e):e.loc≠.mark (.release (stA c.Wg)):=by
 rcases h with h|h| ⟨a,y,rfl,_⟩
 .rw[h];simp
 .rw[h];simp
 .simp
def iP{e:Event}(h:Neutral e):e.loc≠.mark (.release (stA c.Wg))/\e.loc≠.mark .disable/\e.loc≠.mark .enable:=by rcases h with h| ⟨f,h⟩<;>rw[h]<;>simp
def WW{i L:Nat}{e:Event}(h:Ll c Bo i L w e):e.loc≠.mark (.release (stA c.Wg)):=by
 rcases h with(⟨a,rfl,_⟩|h)| ⟨a,x,rfl,_⟩|h|rfl
 .simp
 .exact(iP h).1
 .simp
 .exact zS h
 .simp[mk]
def Dh{i:Nat}{fn:FuncId}{pos:String}{k:aA}(j:∀b,c.base<=b->b<Lw i->b≠c.Wg->b≠c.C->¬jN c w b->RB i b)(h:∀e∈k,Ll c Bo i (Lw i) w e):
  ∀op∈MemOp.ofEvents (c.o+i+1) fn pos k,OkW (Sh c) (MB c Bo) (Rd c RB) (c.o+i+1) op:=by
 intro op f;obtain⟨e,q,rfl⟩:=Go.Conc.mem_ofEvents f;refine⟨rfl,fun x d=>?_⟩;rcases h e q with(⟨a,rfl,g,l,h3,h4,n⟩|h)| ⟨a,y,rfl,g⟩|h|rfl
 .simp only[gO,MemAct.touch?,aAF] at d;subst d;exact .inr (.inr ⟨⟨i,a,rfl,rfl,j _ g l h3 h4 n⟩,rfl⟩)
 .simp only[(fP h).1] at d;cases d
 .simp only[gO,MemAct.touch?,aAF] at d;subst d;exact .inr (.inl ⟨i,a,rfl,rfl,g⟩)
 .have⟨⟨a,p,o⟩,m⟩:=(mG h).1 x d;refine .inl ⟨.inl ⟨a,p,o⟩,?_,?_⟩<;>rw[m]<;>simp
 .simp[MemAct.ofEvent,mk,MemAct.touch?] at d
def Di{i B:Nat}{fn:FuncId}{pos:String}{k:aA}(s:Lw i<=B)(n:c.C<B)(j:c.Wg<B)(o:∀b,Bo i=some b->b<B)(h:∀e∈k,Ll c Bo i (Lw i) w e):
  ∀op∈MemOp.ofEvents (c.o+i+1) fn pos k,WV c B op:=by
 intro op f;obtain⟨e,m,rfl⟩:=Go.Conc.mem_ofEvents f;refine⟨.inr (.inl (by show c.o<c.o+i+1;omega)),fun x d=>?_,?_⟩
 .rcases h e m with(⟨a,rfl,_⟩|h)| ⟨a,y,rfl,_⟩|h|rfl
  .simp only[gO,MemAct.touch?,aAF] at d;subst d;exact⟨rfl,fun e=>by simp at e⟩
  .simp only[(fP h).1] at d;cases d
  .simp only[gO,MemAct.touch?,aAF] at d;subst d;exact⟨rfl,fun e=>by simp at e⟩
  .have⟨⟨a,l,p⟩,r⟩:=(mG h).1 x d;exact⟨by rw[l];rfl,fun _=>⟨a,l,p⟩⟩
  .simp[MemAct.ofEvent,mk,MemAct.touch?] at d
 .rcases h e m with(⟨a,rfl,_,q,_⟩|h)| ⟨a,y,rfl,g⟩|h|rfl
  .show a.block<B;omega
  .exact(fP h).2 B
  .show a.block<B;rcases g with rfl|g
   .exact n
   .exact o _ g
  .exact(mG h).2 B j
  .exact j
def DU{B b:Nat}(h:B<=b){op:MemOp}(a:WV c B op):WV c b op:=⟨a.1,a.2.1,MemAct.low_mono h a.2.2⟩
def qS(f:K2->K2)(a:Nat)(x:K2)(b:Nat)(c:a≠b):((gs.map f).setIfInBounds a x)[b]?=(gs[b]?).map f:=by rw[aAH c,aCD]
def kU(f:K2->K2)(a:Nat)(x:K2)(b:a<gs.size):((gs.map f).setIfInBounds a x)[a]?=some x:=by simp[b]
def woken_quits{q d:Nat}{g:K2}(h:QuitsD c.P q d g)(a b:K2)(u:WR):woken c.P a b u g=g:=woken_quitsD h
def Com.stepW(G:Geo c)(h:Com c w0 t0 Low j gs w t D Lw Bo RB d0){i:Nat}(R:i<j){g M:K2}{fn:FuncId}{pos:String}{K:aA}{O Z F:Nat}(f:mI c w w')(W:∀b,b<w.heap.size->b≠c.Wg->b≠c.C->¬jN c w b->¬jN c w' b)(X:∀a,a<j->a≠i->RX c (Lw a) a (fun b=>Bo a=some b) w w')(P:WX c i (Lw i) (Bo' i) O Z F M w')(o:∀a,a≠i->Bo' a=Bo a)(Q:∀b,Bo i=some b->Bo' i=some b)(J:∀b,Bo' i=some b->(Bo i=some b\/w.heap.size<=b)/\c.base<=b/\jN c w' b)(A:∀e∈K,Ll c Bo' i (Lw i) w e)(z:deafBehind (D (c.o+i)).deaf K=F)(I:O<=6->∃r,RelBy (stA c.Wg) (t++MemOp.ofEvents (c.o+i+1) fn pos K) (c.o+i+1) r)(v:PayAt c.C c.n w')(q:WgLive c.ty c.Wg w'):
  Com c w0 t0 Low j ((gs.map (woken c.P g M w')).setIfInBounds (c.o+i+1) M) w' (t++MemOp.ofEvents (c.o+i+1) fn pos K) (upd D (c.o+i) ⟨O,Z,F⟩) Lw Bo' RB d0:=by
 have E:=h.seen;have C:∀a b,Bo a=some b->Bo' a=some b:=fun a b d=>by
  by_cases e:a=i
  .subst e;exact Q b d
  .rw[o a e];exact d
 have S:∀a b,Bo' a=some b->Bo a=some b\/w.heap.size<=b:=fun a b d=>by
  by_cases e:a=i
  .subst e;exact(J b d).1
  .rw[o a e] at d;exact .inl d
 have y:∀a b,Bo' a=some b->a<j/\c.base<=b/\jN c w' b:=fun a b d=>by
  by_cases e:a=i
  .subst e;exact⟨R,(J b d).2⟩
  .rw[o a e] at d;have⟨m,l,h3⟩:=h.bs a b d;exact⟨m,l,f.ym b h3⟩
 have s:∀a p b,Bo' a=some b->Bo' p=some b->a=p:=fun a p b m l=>by
  rcases S _ _ m with k1|k1<;>rcases S _ _ l with V|V
  .exact h.inj _ _ _ k1 V
  .have:=(h.bs _ _ k1).2.2.lt;omega
  .have:=(h.bs _ _ V).2.2.lt;omega
  .by_cases e1:a=i
   .by_cases Y:p=i
    .rw[e1,Y]
    .rw[o p Y] at l;have:=(h.bs _ _ l).2.2.lt;omega
   .rw[o a e1] at m;have:=(h.bs _ _ m).2.2.lt;omega
 have H:∀a b,RB a b->a<j/\c.base<=b/\b<Lw a/\b≠c.Wg/\b≠c.C/\¬jN c w' b:=fun a b d=>by have⟨m,l,h3,h4,B,U⟩:=h.rb a b d;exact⟨m,l,h3,h4,B,W b (by have:=h.low a m;have:=h.lH;omega) h4 B U⟩
 have hA:Apart (Sh c) (MB c Bo') (Rd c RB):=zR G q v (fun i b d=>(y i b d).2) s fun i b d=>let⟨_,m,_,l,h3,h4⟩:=H i b d;⟨m,l,h3,h4⟩
 refine⟨by simp[h.size],fun a k=>?_,fun a k=>?_,h.low,aAw h.lH f.size,h.BR,h.BS,h.GO,y,s,H,fun a b m l h3 h4 B U=>h.Fa a b m l h3 h4 B (fun x=>U (f.ym b x)),q,v,
  (CT.grow h.ct E C S).appW hA oM oM (Dh (Lw:=Lw) (fun b m l h3 h4 B=>h.Fa i b R m l h3 h4 B) A),h.norel.app (Go.ConcN.norel_of fun e he=>WW (A e he)),by rw[Deaf_other t oM _ g_of_ofEvents,h.deaf0],fun a k=>?_,fun a k N=>?_,fun b d=>(f.frame b d).tr (h.frame b d),?_,fun op n=>MemAct.low_mono f.size (h.GN op n),f.tidy h.tidy,⟨f.os.1.tr h.os.1,f.os.2.tr h.os.2⟩⟩
 .have⟨x,T,m,l⟩:=h.old a k;refine⟨x,?_,?_,?_⟩
  .rw[qS _ _ _ _ oM,T,aAX,woken_quits l]
  .rw[upd_ne D _ oM];exact m
  .rw[upd_ne D _ oM];exact l
 .by_cases e:a=i
  .subst e;exact⟨M,kU _ _ _ (by rw[h.size];omega),by rw[upd_same];exact P⟩
  .have⟨x,T,L⟩:=h.wk a k;refine⟨x,?_,?_⟩
   .rw[qS _ _ _ _ oM,T,aAX,L.woken]
   .rw[upd_ne D _ oM,o a e];exact L.rely G.out (X a k e)
 .by_cases e:a=c.o+i
  .subst e;rw[Deaf_own,h.deafW _ k,upd_same];exact z
  .rw[Deaf_other t oM _ g_of_ofEvents,h.deafW a k,upd_ne D _ e]
 .by_cases e:a=i
  .subst e;rw[upd_same] at N;exact I N
  .rw[upd_ne D _ oM] at N;have⟨r,hr⟩:=h.rel a k N;exact⟨r,hr.appOther g_of_ofEvents oM⟩
 .obtain⟨u,rfl,hu⟩:=h.tr;refine⟨u++MemOp.ofEvents (c.o+i+1) fn pos K,by rw[aCx],fun op n=>?_⟩;rcases aBC.1 n with n|n
  .exact DU f.size (hu op n)
  .have m:=h.low i R;have l:=h.lH;have h3:=f.size;have h4:=h.BS;have B:=h.BR;exact Di (Lw:=Lw) (B:=w'.heap.size) oM oM oM (fun b d=>(y i b d).2.2.lt) A op n
end
end
end
section
open Go.Conc Go.Lift
open Go.ConcN (WgLive PayAt Has AtR0 AtK1 WSit RW CTag CT Apart OkW Ok0 ShN RelBy WD upd upd_same upd_ne PermW Mode Vc Ssum Fsum phi pend cnt sumTo sumTo_upd sumTo_upd_out)
open Go.ConcR (KK wgBlock WgAt stA smA rd wr mk Payload Bk g_of_ofEvents)
variable [Payload]
def Dj{c:iF}{D:Nat->WD}{RB:Nat->Nat->Prop}(h:Com c w0 t0 Low j gs w t D Lw Bo RB d0)(l:∀e∈es,Ev0 c Low w e\/Bk c.Wg e\/e=mk (.acquire (stA c.Wg))):
  (∀op∈MemOp.ofEvents 0 fn pos es,Ok0 (Sh c) (MB c Bo) (Rd c RB) (c.o+j) op)/\∀B,w.heap.size<=B->∀op∈MemOp.ofEvents 0 fn pos es,WV c B op:=by
 have E:c.Wg<w.heap.size:=aAy h.BR h.lH;refine⟨fun op g=>?_,fun B F op g=>?_⟩
 .obtain⟨e,o,rfl⟩:=Go.Conc.mem_ofEvents g;refine⟨rfl,fun x b=>?_⟩;rcases l e o with(⟨a,y,rfl,d,q,h3,h4,r,v⟩| ⟨a,rfl|rfl,d⟩|n)|f|rfl
  .simp only[gO,MemAct.touch?,aAF] at b;subst b;refine .inr ⟨?_,fun k _ _=>?_,fun z k _ _=>?_⟩
   .rintro(⟨a',e,f⟩|A)
    .cases e;exact d f
    .exact h4 A
   .rintro⟨i,a',_,e,m⟩;cases e;rcases m with rfl|m
    .exact q rfl
    .exact h3 (h.bs _ _ m).2.2
   .rintro⟨i,a',_,e,m⟩;cases e;have⟨r1,_,C,_⟩:=h.rb _ _ m;have:=r z;have:=h.low i r1;omega
  .simp only[MemAct.ofEvent,MemAct.touch?,aAF] at b;subst b;exact .inl ⟨.inl ⟨a,rfl,d⟩,sI⟩
  .simp only[MemAct.ofEvent,MemAct.touch?,aAF] at b;subst b;exact .inl ⟨.inl ⟨a,rfl,d⟩,sI⟩
  .simp only[(fP n).1] at b;cases b
  .have⟨⟨a,p,s⟩,u⟩:=(mG f).1 x b;exact .inl ⟨.inl ⟨a,p,s⟩,by rw[u];simp⟩
  .simp[MemAct.ofEvent,mk,MemAct.touch?] at b
 .obtain⟨e,o,rfl⟩:=Go.Conc.mem_ofEvents g;refine⟨.inl rfl,fun x b=>?_,?_⟩
  .rcases l e o with(⟨a,y,rfl,d,q,h3,h4,r,v⟩| ⟨a,rfl|rfl,d⟩|n)|f|rfl
   .simp only[gO,MemAct.touch?,aAF] at b;subst b;exact⟨rfl,fun e=>by simp at e⟩
   .simp only[MemAct.ofEvent,MemAct.touch?,aAF] at b;subst b;exact⟨rfl,fun e=>by simp at e⟩
   .simp only[MemAct.ofEvent,MemAct.touch?,aAF] at b;subst b;exact⟨rfl,fun e=>by simp at e⟩
   .simp only[(fP n).1] at b;cases b
   .have⟨⟨a,p,s⟩,u⟩:=(mG f).1 x b;exact⟨by rw[p];rfl,fun _=>⟨a,p,s⟩⟩
   .simp[MemAct.ofEvent,mk,MemAct.touch?] at b
  .rcases l e o with(⟨a,y,rfl,d,q,h3,h4,r,v⟩| ⟨a,rfl|rfl,d⟩|n)|f|rfl
   .show a.block<B;omega
   .show a.block<B;omega
   .show a.block<B;omega
   .exact(fP n).2 B
   .exact(mG f).2 B oM
   .show c.Wg<B;omega
def DV{c:iF}{e:Event}(h:Ev0 c Low w e):e.loc≠.mark (.release (stA c.Wg))/\e.loc≠.mark .disable/\e.loc≠.mark .enable:=by
 rcases h with⟨a,y,rfl,_⟩| ⟨a,rfl|rfl,_⟩|b
 .simp
 .simp
 .simp
 .exact iP b
def Com.step0{c:iF}{m:WR}{D:Nat->WD}{RB:Nat->Nat->Prop}(G:Geo c)(h:Com c w0 t0 Low j gs w t D Lw Bo RB d0){a:K2}(d:mI c w m)(C:∀b,b<Low->b≠c.Wg->b≠c.C->¬jN c w b->¬jN c m b)(E:∀i,i<j->RX c (Lw i) i (fun b=>Bo i=some b) w m)(q:∀e∈es,Ev0 c Low w e\/Bk c.Wg e\/e=Go.ConcR.mk (.acquire (stA c.Wg)))(p:PayAt c.C c.n m)(n:WgLive c.ty c.Wg m):
  Com c w0 t0 Low j ((gs.map (woken c.P a a' m)).setIfInBounds 0 a') m (t++MemOp.ofEvents 0 fn pos es) D Lw Bo RB (deafBehind d0 es):=by
 have⟨A,y⟩:=Dj h (fn:=fn) (pos:=pos) q;refine⟨by simp[h.size],fun i l=>?_,fun i l=>?_,h.low,aAw h.lH d.size,h.BR,h.BS,h.GO,fun i b k=>⟨(h.bs i b k).1,(h.bs i b k).2.1,d.ym b (h.bs i b k).2.2⟩,h.inj,fun i b k=>?_,
  fun i b g o h3 h4 v B=>h.Fa i b g o h3 h4 v (fun x=>B (d.ym b x)),n,p,h.ct.app0 (h.apart G) A,h.norel.app (Go.ConcN.norel_of fun e J=>?_),by rw[Deaf_own,h.deaf0],fun i l=>by rw[Deaf_other t oM _ g_of_ofEvents,h.deafW i l],fun i l I=>?_,fun b k=>(d.frame b k).tr (h.frame b k),?_,fun op f=>MemAct.low_mono d.size (h.GN op f),d.tidy h.tidy,⟨d.os.1.tr h.os.1,d.os.2.tr h.os.2⟩⟩
 .have⟨x,z,g,o⟩:=h.old i l;exact⟨x,by rw[qS _ _ _ _ oM,z,aAX,woken_quits o],g,o⟩
 .have⟨x,z,s⟩:=h.wk i l;exact⟨x,by rw[qS _ _ _ _ oM,z,aAX,s.woken],s.rely G.out (E i l)⟩
 .have⟨g,o,h3,h4,v,B⟩:=h.rb i b k;exact⟨g,o,h3,h4,v,C b (by have:=h.low i g;omega) h4 v B⟩
 .rcases q e J with g|g|rfl
  .exact(DV g).1
  .exact zS g
  .simp[Go.ConcR.mk]
 .have⟨r,F⟩:=h.rel i l I;exact⟨r,F.appOther g_of_ofEvents oM⟩
 .obtain⟨u,rfl,H⟩:=h.tr;refine⟨u++MemOp.ofEvents 0 fn pos es,by rw[aCx],fun op f=>?_⟩;rcases aBC.1 f with f|f
  .exact DU d.size (H op f)
  .exact y _ d.size op f
def Com.at{c:iF}{D:Nat->WD}{RB:Nat->Nat->Prop}(G:Geo c)(h:Com c w0 t0 Low j gs w t D Lw Bo RB d0)(d:Nat):Com c w0 t0 Low j gs (w.at d) t D Lw Bo RB d0:=
 ⟨h.size,h.old,fun i e=>let⟨g,b,a⟩:=h.wk i e;⟨g,b,a.rely G.out (RX.at w d)⟩,h.low,h.lH,h.BR,h.BS,h.GO,h.bs,h.inj,h.rb,h.Fa,h.live,h.pay,h.ct,h.norel,h.deaf0,h.deafW,h.rel,h.frame,h.tr,h.GN,h.tidy,h.os⟩
def Com.Ip{c:iF}{D:Nat->WD}{RB:Nat->Nat->Prop}(G:Geo c)(h:Com c w0 t0 Low j gs w t D Lw Bo RB d0){i:Nat}(H:i<c.o){g l:K2}{q:Nat}(m:∀e∈es,e.mute=true)(y:QuitsD c.P q (deafBehind (D i).deaf es) l):
  Com c w0 t0 Low j ((gs.map (woken c.P g l w)).setIfInBounds (i+1) l) w (t++MemOp.ofEvents (i+1) fn pos es) (upd D i ⟨1,q,deafBehind (D i).deaf es⟩) Lw Bo RB d0:=by
 have key:∀op∈MemOp.ofEvents (i+1) fn pos es,op.g=i+1/\op.act.touch?=none/\(∀B,op.act.low B)/\op.act≠.mark (.release (stA c.Wg)):=fun op a=>by obtain⟨e,n,rfl⟩:=Go.Conc.mem_ofEvents a;refine⟨rfl,touch_mute (m e n),low_mute (m e n),?_⟩;have v:=Go.ConcR.bk_of_mute (Wg:=c.Wg) (m e n);intro C;exact zS (c:=c) v (Go.ConcR.loc_of_ofEvent C)
 refine⟨by simp[h.size],fun f b=>?_,fun f b=>?_,h.low,h.lH,h.BR,h.BS,h.GO,h.bs,h.inj,h.rb,h.Fa,h.live,h.pay,
  h.ct.appW (h.apart G) oM oM (fun op a=>⟨(key op a).1,fun x d=>by rw[(key op a).2.1] at d;cases d⟩),h.norel.app (fun op a=>(key op a).2.2.2),by rw[Deaf_other t oM _ g_of_ofEvents,h.deaf0],fun f b=>?_,fun f b p=>?_,h.frame,?_,h.GN,h.tidy,h.os⟩
 .by_cases e:f=i
  .subst e;refine⟨l,kU _ _ _ (by rw[h.size];omega),?_,?_⟩
   .rw[upd_same]
   .rw[upd_same];exact y
  .have⟨x,d,A,o⟩:=h.old f b;refine⟨x,?_,?_,?_⟩
   .rw[qS _ _ _ _ oM,d,aAX,woken_quits o]
   .rw[upd_ne D _ e];exact A
   .rw[upd_ne D _ e];exact o
 .have⟨x,d,k⟩:=h.wk f b;refine⟨x,?_,?_⟩
  .rw[qS _ _ _ _ oM,d,aAX,k.woken]
  .rw[upd_ne D _ oM];exact k
 .by_cases e:f=i
  .subst e;rw[Deaf_own,h.deafW _ b,upd_same]
  .rw[Deaf_other t oM _ g_of_ofEvents,h.deafW f b,upd_ne D _ e]
 .rw[upd_ne D _ oM] at p;have⟨r,E⟩:=h.rel f b p;exact⟨r,E.appOther g_of_ofEvents oM⟩
 .obtain⟨u,rfl,F⟩:=h.tr;refine⟨u++MemOp.ofEvents (i+1) fn pos es,by rw[aCx],fun op a=>?_⟩;rcases aBC.1 a with a|a
  .exact F op a
  .have⟨k1,s,z,_⟩:=key op a;exact⟨.inr (.inr s),(fun x d=>by rw[s] at d;cases d),z _⟩
def CT.congr{Sh:yi}{MB Rd Rd':Nat->yi}{J:Nat}(h:CT Sh MB Rd t J)(e:∀k,k<=J->∀l,Rd k l ↔ Rd' k l):CT Sh MB Rd' t J:=
 ⟨h.quiet,h.own,fun k k1 a l b=>h.rd k k1 a l ((e k a l).2 b),fun l c b=>h.free l c fun k k1 a=>⟨(b k k1 a).1,fun x=>(b k k1 a).2 ((e k a l).1 x)⟩,h.mine,h.nr,h.gs⟩
def Com.spawn{c:iF}{D:Nat->WD}{RB:Nat->Nat->Prop}(G:Geo c)(h:Com c w0 t0 Low j gs w t D Lw Bo RB 0){f:K2}{x y:MemOp}{m L:Nat}(v:x.g=0/\x.act=.go (c.o+j+1))(s:y.g=c.o+j+1/\y.act=.start)(S:Goes c.P false (RX c w.heap.size j (fun _=>False)) (DA c w.heap.size) (uP c w.heap.size j L) m f w):
  Com c w0 t0 w.heap.size (j+1) ((gs.setIfInBounds 0 a').push f) w (t++#[x,y]) (upd D (c.o+j) ⟨7,m+L+1,0⟩) (upd Lw j w.heap.size) Bo
   (upd RB j fun b=>c.base<=b/\b<w.heap.size/\b≠c.Wg/\b≠c.C/\¬jN c w b) 0:=by
 have H:∀op∈#[x,y],op=x\/op=y:=by intro op d;simpa using d
 have A:∀op∈#[x,y],op.act≠.mark .disable/\op.act≠.mark .enable:=by
  intro op d;rcases H op d with rfl|rfl
  .rw[v.2];exact⟨sI,sI⟩
  .rw[s.2];exact⟨sI,sI⟩
 have q:Bo j=none:=by
  cases n:Bo j with
  |none=>rfl
  |some b=>have:=(h.bs j b n).1;omega
 have B:∀i b,upd RB j (fun b=>c.base<=b/\b<w.heap.size/\b≠c.Wg/\b≠c.C/\¬jN c w b) i b->i<j+1/\c.base<=b/\b<upd Lw j w.heap.size i/\b≠c.Wg/\b≠c.C/\¬jN c w b:=by
  intro i b n;by_cases e:i=j
  .subst e;rw[upd_same] at n⊢;exact⟨oM,n⟩
  .rw[upd_ne _ _ e] at n;rw[upd_ne _ _ e];have⟨p,o⟩:=h.rb i b n;exact⟨oM,o⟩
 have O:Apart (Sh c) (MB c Bo) (Rd c (upd RB j fun b=>c.base<=b/\b<w.heap.size/\b≠c.Wg/\b≠c.C/\¬jN c w b)):=
  zR G h.live h.pay (fun i b n=>(h.bs i b n).2) h.inj fun i b n=>let⟨_,p,_,o,h3,h4⟩:=B i b n;⟨p,o,h3,h4⟩
 have J:=CT.congr h.ct (Rd':=Rd c (upd RB j fun b=>c.base<=b/\b<w.heap.size/\b≠c.Wg/\b≠c.C/\¬jN c w b)) (fun k T l=>by
  constructor
  .rintro⟨i,a,p,o,h3⟩;exact⟨i,a,p,o,by rw[upd_ne _ _ oM];exact h3⟩
  .rintro⟨i,a,p,o,h3⟩;rw[upd_ne _ _ oM] at h3;exact⟨i,a,p,o,h3⟩)
 refine⟨by simp[h.size];omega,fun i E=>?_,fun i E=>?_,fun i E=>?_,aAz _,aAy h.BR h.lH,aAy h.BS h.lH,aAw h.GO h.lH,fun i b n=>⟨by have:=(h.bs i b n).1;omega,(h.bs i b n).2⟩,h.inj,B,fun i b p o h3 h4 M N=>?_,h.live,h.pay,
  by have:=J.fork O v s h.deaf0;rwa[aBY] at this,h.norel.app fun op d=>?_,by rw[Go.ConcN.Deaf_still t 0 _ A,h.deaf0],fun i E=>?_,fun i E F=>?_,h.frame,?_,h.GN,h.tidy,h.os⟩
 .have⟨g,I,p,o⟩:=h.old i E;refine⟨g,?_,?_,?_⟩
  .rw[aBF (by simp[h.size];omega),<-aAN,aAH oM];exact I
  .rw[upd_ne D _ oM];exact p
  .rw[upd_ne D _ oM];exact o
 .by_cases e:i=j
  .subst e;refine⟨f,?_,?_⟩
   .rw[show c.o+i+1=(gs.setIfInBounds 0 a').size by simp[h.size],aAT]
   .rw[upd_same,upd_same,q];exact .a S
  .have⟨g,I,K⟩:=h.wk i oM;refine⟨g,?_,?_⟩
   .rw[aBF (by simp[h.size];omega),<-aAN,aAH oM];exact I
   .rw[upd_ne D _ oM,upd_ne Lw _ e];exact K
 .by_cases e:i=j
  .subst e;rw[upd_same];exact aAz _
  .rw[upd_ne Lw _ e];exact aAw (h.low i oM) h.lH
 .by_cases e:i=j
  .subst e;rw[upd_same] at h3⊢;exact⟨o,h3,h4,M,N⟩
  .rw[upd_ne _ _ e] at h3⊢;exact h.Fa i b oM o h3 h4 M N
 .rcases H op d with rfl|rfl
  .rw[v.2];simp
  .rw[s.2];simp
 .rw[Go.ConcN.Deaf_still t _ _ A];by_cases e:i=c.o+j
  .subst e;rw[upd_same];exact Go.ConcN.Deaf_absent fun a op R e=>by have:=h.ct.gs a op R;omega
  .rw[upd_ne D _ e];exact h.deafW i oM
 .by_cases e:i=j
  .subst e;rw[upd_same] at F;simp at F
  .rw[upd_ne D _ oM] at F;have⟨r,P⟩:=h.rel i oM F;refine⟨r,P.appNot fun op d=>?_⟩;rcases H op d with rfl|rfl
   .rw[v.1];omega
   .rw[s.1];omega
 .obtain⟨u,rfl,Q⟩:=h.tr;refine⟨u++#[x,y],by rw[aCx],fun op d=>?_⟩;rcases aBC.1 d with d|d
  .exact Q op d
  .rcases H op d with rfl|rfl
   .exact⟨.inl v.1,(fun z C=>by rw[v.2] at C;cases C),by rw[v.2];trivial⟩
   .exact⟨.inr (.inl (by rw[s.1];omega)),(fun z C=>by rw[s.2] at C;cases C),by rw[s.2];trivial⟩
end
section
open Go.Conc Go.Lift
open Go.ConcN (WgLive PayAt Has AtR0 AtK1 WSit RW CTag CT Apart OkW Ok0 ShN RelBy WD upd upd_same upd_ne PermW Vc Ssum Fsum phi pend cnt sumTo sumTo_upd sumTo_upd_out OpenSt isW3 Vc_upd Vc_le le_sumTo)
open Go.ConcR (KK wgBlock WgAt stA smA rd wr mk Payload Bk g_of_ofEvents)
variable [Payload]
section
def Inv(c:iF)(w0:WR)(t0:Trace)(b:Nat×Nat)(m:Machine)(t:Trace):Prop:=
 ∃(gs:Array K2) (w:WR) (sl:Option (Nat×Nat)) (Low j:Nat) (D:Nat->WD) (Lw:Nat->Nat) (Bo:Nat->Option Nat) (RB:Nat->Nat->Prop) (tag:CTag) (f0 d0:Nat) (a:K2) (st sm:Int),
  m=crowd gs w sl/\gs[0]?=some a/\CX c Low tag j f0 d0 a w/\Com c w0 t0 Low j gs w t D Lw Bo RB d0/\WgAt c.ty c.Wg w st sm/\Go.ConcN.Mode (c.o+j) D tag st sm/\
  b=(phi (c.o+c.n) (Vc (c.o+j) D) tag+Ssum (c.o+j) D,f0+2*Fsum (c.o+j) D)
def jZ(c:iF)(w0:WR)(t0 t:Trace)(e:Nat×Nat)(s:Stepped×Array MemOp):Prop:=∃a b d,s=(.next a,b)/\Lt2 d e/\Inv c w0 t0 d a (t++b)
section
variable {c:iF} {w0 w w':WR} {t0 t:Trace} {Low j:Nat} {gs:Array K2} {sl:Option (Nat×Nat)} {D:Nat->WD} {Lw:Nat->Nat} {Bo Bo':Nat->Option Nat} {RB:Nat->Nat->Prop} {tag:CTag} {f0 d0:Nat} {a:K2} {st sm:Int}
theorem iL(G:Geo c)(H:gs[0]?=some a)(v:CX c Low tag j f0 d0 a w){k:Nat}(q:k<c.o+j){g l:K2}{A:aA}(C:gs[k+1]?=some g)(u:stepG c.P false g w=.go l w' A)(I:R0 c w w'){x:WD}{h e:Int}(i:Com c w0 t0 Low j ((gs.map (woken c.P g l w')).setIfInBounds (k+1) l) w' (t++MemOp.ofEvents (k+1) g.frame.fn g.frame.place A) (upd D k x) Lw Bo' RB d0)(m:WgAt c.ty c.Wg w' h e)(f:∀b,(b=tag\/(tag=.blk/\b=.w3))->(mayWake c.P g=true->l.status=.running->b≠.blk)->Go.ConcN.Mode (c.o+j) (upd D k x) b h e)(p:(x.stage<(D k).stage/\cnt x<=cnt (D k))\/(x.stage=(D k).stage/\x.fuel+1<=(D k).fuel)):
  jZ c w0 t0 t (phi (c.o+c.n) (Vc (c.o+j) D) tag+Ssum (c.o+j) D,f0+2*Fsum (c.o+j) D) (runT c.P (crowd gs w sl) (k+1)):=by
 have⟨b,z,o,F,d,s⟩:=v.wokenBy G.anch I g l;have n:=runT_crowd_go (P:=c.P) (sl:=sl) (i:=k+1) C (by simpa using u);have L:=sumTo_upd D x cnt q;have K:=sumTo_upd D x WD.stage q;have M:=sumTo_upd D x WD.fuel q;refine⟨_,_,(phi (c.o+c.n) (Vc (c.o+j) (upd D k x)) b+Ssum (c.o+j) (upd D k x),z+2*Fsum (c.o+j) (upd D k x)),n,?_,
  _,w',sl,Low,j,upd D k x,Lw,Bo',RB,b,z,d0,woken c.P g l w' a,h,e,rfl,?_,o,i,m,f b d s,rfl⟩
 .rw[Go.ConcN.phi_retag _ _ d];simp only[Vc,Ssum,Fsum] at*;rcases p with⟨y,B⟩| ⟨y,B⟩
  .refine Prod.Lex.left _ _ ?_;have:=Go.ConcN.phi_mono (c.o+c.n) (v':=sumTo (c.o+j) fun a=>cnt (upd D k x a)) (v:=sumTo (c.o+j) fun a=>cnt (D a)) oM tag;omega
  .have J:cnt x=cnt (D k):=by simp only[cnt,y]
   have E:(sumTo (c.o+j) fun a=>cnt (upd D k x a))=sumTo (c.o+j) fun a=>cnt (D a):=oM
   have r:(sumTo (c.o+j) fun a=>(upd D k x a).stage)=sumTo (c.o+j) fun a=>(D a).stage:=oM
   rw[E,r];exact Prod.Lex.right _ oM
 .rw[qS _ _ _ _ oM,H];rfl
theorem jd(G:Geo c)(B:gs[0]?=some a)(l:CX c Low tag j f0 d0 a w)(hcom:Com c w0 t0 Low j gs w t D Lw Bo RB d0)(o:WgAt c.ty c.Wg w st sm)(e:Go.ConcN.Mode (c.o+j) D tag st sm){i:Nat}(v:i<c.o){g:K2}(s:gs[i+1]?=some g)(b:g.status=.running):
  jZ c w0 t0 t (phi (c.o+c.n) (Vc (c.o+j) D) tag+Ssum (c.o+j) D,f0+2*Fsum (c.o+j) D) (runT c.P (crowd gs w sl) (i+1)):=by
 have⟨u,d,h,k⟩:=hcom.old i v;rw[s] at d;cases d;generalize p:(D i).fuel=m at k;cases m with
 |zero=>rw[k.1] at b;cases b
 |succ q=>
  rcases k with⟨y,_⟩| ⟨_,C,z,A,f,n⟩
  .rw[y] at b;cases b
  .refine iL G B l oM s (f w) (.refl w) (hcom.Ip G v A n) o (fun r x _=>Go.ConcN.Mode.retag ?_ x) (.inr ⟨h.symm,by rw[p];exact aAz _⟩);have:=e.same (i:=i) q (deafBehind (D i).deaf z);rwa[h] at this
theorem KO(w:WR):mI c w w:=⟨aAz _,fun _ h=>h,fun _ _=>rfl,id,rfl,rfl⟩
theorem Dl(w:WR)(d:Nat):mI c w (w.at d):=⟨aAz _,fun _ h=>h,fun _ _=>rfl,id,rfl,rfl⟩
section
variable (G:Geo c) (hcom:Com c w0 t0 Low j gs w t D Lw Bo RB d0)
theorem RU(G:Geo c)(hcom:Com c w0 t0 Low j gs w t D Lw Bo RB d0)(a:Aside c.Wg w w')(k:WgLive c.ty c.Wg w'):
  R0 c w w'/\mI c w w'/\(∀b,b<w.heap.size->b≠c.Wg->b≠c.C->¬jN c w b->¬jN c w' b)/\(∀i,i<j->RX c (Lw i) i (fun b=>Bo i=some b) w w')/\PayAt c.C c.n w':=by
 have l:=a.block c.C G.hCW;have m:PayAt c.C c.n w':=let⟨q,r,g⟩:=hcom.pay;⟨q,l.tr r,g⟩
 have d:∀b,jN c w b->w'.heap[b]?=w.heap[b]?:=fun b d=>a.block b fun e=>GP G hcom.live (e▸d);have p:Tidy c w->Tidy c w':=fun h b o d f=>by
  by_cases e:b=c.Wg
  .subst e;have⟨st,sm,n⟩:=k;unfold WgAt wgBlock at n;rw[n] at f;cases f;exact⟨_,_,rfl⟩
  .rw[a.block b e] at f;exact h b o d f
 refine⟨⟨aBz a.size.symm,fun b _ h _ _=>a.block b h,fun _=>k⟩,⟨aBz a.size.symm,fun b h=>h.of_block (d b h),fun b h=>a.block b (by have:=G.bW;omega),p,a.os,a.output⟩,fun b _ g _ h4 x=>h4 (x.of_block (a.block b g).symm),fun i s=>⟨aBz a.size.symm,fun b _ h _ _=>a.block b h,fun b h=>d b (hcom.bs i b h).2.2,fun _=>k,fun _=>m,Go.ConcN.cell_of_block l i⟩,m⟩
theorem WY(G:Geo c)(hcom:Com c w0 t0 Low j gs w t D Lw Bo RB d0)(x:Ff):
  R0 c w (made c w x)/\mI c w (made c w x)/\(∀b,b<w.heap.size->b≠c.Wg->b≠c.C->¬jN c w b->¬jN c (made c w x) b)/\(∀i,i<j->RX c (Lw i) i (fun b=>Bo i=some b) w (made c w x))/\PayAt c.C c.n (made c w x)/\jN c (made c w x) w.heap.size/\WgLive c.ty c.Wg (made c w x)/\∀st sm,WgAt c.ty c.Wg w st sm->WgAt c.ty c.Wg (made c w x) st sm:=by
 have t:(made c w x).heap.size=w.heap.size+1:=by simp[made]
 have a:∀b,b<w.heap.size->(made c w x).heap[b]?=w.heap[b]?:=fun b k=>by simp only[made,aAV];rw[if_neg oM]
 have l:=a c.Wg (aAy hcom.BR hcom.lH);have g:=a c.C (aAy hcom.BS hcom.lH);have f:WgLive c.ty c.Wg (made c w x):=let⟨st,sm,r⟩:=hcom.live;⟨st,sm,r.of_block l⟩
 have m:PayAt c.C c.n (made c w x):=let⟨p,q,n⟩:=hcom.pay;⟨p,g.tr q,n⟩
 refine⟨⟨oM,fun b h _ _ _=>a b h,fun _=>f⟩,⟨oM,fun b h=>h.of_block (a b h.lt),fun b h=>a b (by have:=hcom.GO;have:=hcom.lH;omega),fun h b o k d=>?_,rfl,rfl⟩,fun b h _ _ h4 y=>h4 (y.of_block (a b h).symm),fun i s=>⟨oM,fun b h _ _ _=>a b (by have:=hcom.low i s;have:=hcom.lH;omega),fun b h=>a b (hcom.bs i b h).2.2.lt,fun _=>f,fun _=>m,Go.ConcN.cell_of_block g i⟩,m,⟨x,(0,0),?_⟩,f,fun st sm h=>h.of_block l⟩
 .by_cases e:b<w.heap.size
  .rw[a b e] at d;exact h b o k d
  .simp only[made,aAV] at d;split at d
   .cases d;exact⟨_,_,rfl⟩
   .rw[aBh oM] at d;cases d
 .exact aAT
theorem je(G:Geo c)(hcom:Com c w0 t0 Low j gs w t D Lw Bo RB d0){i b:Nat}(p:Bo i=some b){m:Nat}{t:aA}(d:DB c m b i w w' t):
  R0 c w w'/\mI c w w'/\(∀b,b<w.heap.size->b≠c.Wg->b≠c.C->¬jN c w b->¬jN c w' b)/\(∀f,f<j->f≠i->RX c (Lw f) f (fun b=>Bo f=some b) w w')/\PayAt c.C c.n w'/\jN c w' b/\WgLive c.ty c.Wg w'/\∀st sm,WgAt c.ty c.Wg w st sm->WgAt c.ty c.Wg w' st sm:=by
 have⟨_,v,g⟩:=hcom.bs i b p;have ne:∀a,¬jN c w a->a≠b:=fun a h e=>h (e▸g);have u:b≠c.C:=fun e=>oL G hcom.pay (e▸g);have n:=d.block c.Wg (ne _ (GP G hcom.live)) (Ne.symm G.hCW);have k:WgLive c.ty c.Wg w':=let⟨st,sm,s⟩:=hcom.live;⟨st,sm,s.of_block n⟩
 have o:=d.pay hcom.pay;refine⟨⟨aBz d.size.symm,fun a _ _ h3 h4=>d.block a (ne a h4) h3,fun _=>k⟩,⟨aBz d.size.symm,fun a h=>?_,fun a h=>d.block a oM (by have:=G.bC;omega),d.tidy,d.os⟩,fun a _ _ h3 h4 y=>h4 (y.of_block (d.block a (ne a h4) h3).symm),fun f q l=>⟨aBz d.size.symm,fun a _ _ h3 h4=>d.block a (ne a h4) h3,fun a h=>d.block a (fun e=>l (hcom.inj _ _ _ h (e▸p))) (fun e=>oL G hcom.pay (e▸(hcom.bs f a h).2.2)),fun _=>k,fun _=>o,d.cells f l⟩,o,d.ym g,k,fun st sm h=>h.of_block n⟩;by_cases e:a=b
 .subst e;exact d.ym h
 .exact h.of_block (d.block a e (fun r=>oL G hcom.pay (r▸h)))
end
theorem pK{a:aA}(h:∀e∈a,e.loc≠.mark .disable/\e.loc≠.mark .enable)(d:Nat):deafBehind d a=d:=deafBehind_still h d
theorem KP{L:Nat}{e:Event}(h:yk c L w e):e.loc≠.mark .disable/\e.loc≠.mark .enable:=by
 rcases h with⟨a,rfl,_⟩|h
 .simp
 .exact(iP (c:=c) h).2
theorem zT(G:Geo c)(O:gs[0]?=some a)(z:CX c Low tag j f0 d0 a w)(hcom:Com c w0 t0 Low j gs w t D Lw Bo RB d0)(A:WgAt c.ty c.Wg w st sm)(u:Go.ConcN.Mode (c.o+j) D tag st sm){i:Nat}(N:i<j){g:K2}(L:gs[c.o+i+1]?=some g)(y:(D (c.o+i)).stage=7)(M:WX c i (Lw i) (Bo i) 7 (D (c.o+i)).fuel (D (c.o+i)).deaf g w):
  jZ c w0 t0 t (phi (c.o+c.n) (Vc (c.o+j) D) tag+Ssum (c.o+j) D,f0+2*Fsum (c.o+j) D) (runT c.P (crowd gs w sl) (c.o+i+1)):=by
 generalize F:(D (c.o+i)).fuel=m at M;generalize r:(D (c.o+i)).deaf=dd at M;have W:Deaf t (c.o+i+1)=dd:=by rw[hcom.deafW _ oM,r]
 have l:∀E:Nat,Go.ConcN.Mode (c.o+j) (upd D (c.o+i) ⟨7,E,0⟩) tag st sm:=fun E=>by have:=u.same (i:=c.o+i) E 0;rwa[y] at this
 generalize f:Bo i=bo at M;cases M with
 | @a m Q _ _ h=>
  rcases Goes.cases h with p| ⟨E,rfl,n⟩
  .have⟨_,T,x,X,o,H,hB⟩:=p w (RX.refl w);have⟨t1,t2,t3,t4,t5,t6,R,U⟩:=WY G hcom x;refine iL (Bo':=upd Bo i (some w.heap.size)) (x:=⟨7,Q,0⟩) G O z oM L o t1 (hcom.stepW G N t2 t3 (fun P s _=>t4 P s) ?_ (fun P e=>upd_ne Bo _ e) (fun b k=>by rw[f] at k;cases k) (fun b k=>?_) (fun e q=>.inl (.inr (H e q))) ?_ (fun h=>absurd h oM) t5 R) (U st sm A) (fun _ B _=>(l Q).retag B) (.inr ⟨y.symm,by rw[F];simp only;omega⟩)
   .rw[upd_same];exact .b hB
   .rw[upd_same] at k;cases k;exact⟨.inr lR,aAw hcom.GO hcom.lH,t6⟩
   .rw[r];exact pK (fun e q=>(iP (c:=c) (H e q)).2) 0
  .obtain⟨T,w',X,o,⟨⟨d,rfl⟩,I⟩,C⟩:=n w (RX.refl w);refine iL (Bo':=Bo) (x:=⟨7,E+Q+1,0⟩) G O z oM L o (.at w d) (hcom.stepW G N (Dl w d) (fun _ _ _ _ h=>h) (fun P _ _=>RX.at w d) ?_ (fun _ _=>rfl) (fun _ h=>h) (fun b k=>by rw[f] at k;cases k) (fun e q=>.inl (I e q)) ?_ (fun h=>absurd h oM) hcom.pay hcom.live) A (fun _ B _=>(l _).retag B) (.inr ⟨y.symm,by rw[F];simp only;omega⟩)
   .rw[f];exact .a C
   .rw[r];exact pK (fun e q=>KP (I e q)) 0
 | @b b _ _ _ h=>
  rcases Goes.cases h with p| ⟨E,rfl,n⟩
  .have⟨⟨v,_,Y,T,o,K,Z⟩,J⟩:=p w (RX.refl w);refine iL (Bo':=Bo) (x:=⟨6,K,0⟩) G O z oM L o (.refl w) (hcom.stepW G N (KO w) (fun _ _ _ _ h=>h) (fun P _ _=>RX.refl w) ?_ (fun _ _=>rfl) (fun _ h=>h) (fun V k=>⟨.inl k,(hcom.bs i V k).2⟩) (fun e q=>?_) ?_ (fun _=>⟨t.size,RelBy.new W _ _⟩) hcom.pay hcom.live) A (fun _ B _=>(u.counted oM oM (.inl rfl) _ _).retag B) (.inl ⟨by simp only;omega,by simp[cnt,y]⟩)
   .rw[f];exact .c (v:=v) oM (.k1 Z) J
   .simp at q;subst q;exact .inr (.inr (.inr rfl))
   .rw[r];rfl
  .have⟨T,w',X,o,S,C⟩:=n w (RX.refl w);have⟨t1,t2,t3,t4,t5,t6,R,U⟩:=je G hcom f S;refine iL (Bo':=Bo) (x:=⟨7,E,0⟩) G O z oM L o t1 (hcom.stepW G N t2 t3 t4 ?_ (fun _ _=>rfl) (fun _ h=>h) (fun V k=>⟨.inl k,(hcom.bs i V k).2.1,?_⟩) (fun e q=>?_) ?_ (fun h=>absurd h oM) t5 R) (U st sm A) (fun _ B _=>(l _).retag B) (.inr ⟨y.symm,by rw[F];exact aAz _⟩)
   .rw[f];exact .b C
   .rw[f] at k;cases k;exact t6
   .rcases S.ev e q with s| ⟨a,x,rfl,s⟩
    .exact .inl s
    .refine .inr (.inl ⟨a,x,rfl,?_⟩);rcases s with s|s
     .exact .inr (by rw[s];exact f)
     .exact .inl s
   .rw[r];refine pK (fun e q=>?_) 0;rcases S.ev e q with s| ⟨a,x,rfl,_⟩
    .exact KP s
    .simp
 |c h6 _ _=>omega
end
end
end
end Go.Phase
