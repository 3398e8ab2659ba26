import Derived.Conc.CompanyDraw
import Derived.Test.YtbephahokhnccaaGreatDoorJ5
import Derived.Test.YtbephahokhnccaaGreatDoorJ29
set_option linter.all false
set_option maxRecDepth 100000
set_option maxHeartbeats 4000000
namespace Go.Mark
open Go.RowKit Go.Proofs Go.Proofs.Tryz
variable{a₀:Act}{ops0:DQ}{A:Ff}{s:Lp}{b₀:Frame}{cs:eX}{k₀:List Item}{rest0:K4}{b Low i p i₀ nT:Nat}{v1 v2 v5 v6 v7 v8 v9 v10 v11 v12 v13 v14 v15 v16 v17 v18 v19 v20 v21 v22 v23 v24 v25:vZ}{w:WR}
section
open Go.Conc Go.Walk Go.Phase Go.Conc.Lib Go.ConcR.Gen Go.ConcN.Gen Go.Lift
open Go.ConcN (WgLive Has RW DWs AtR0 PayAt)
open Go.ConcR (KK WgAt stA smA rd wr mk Payload)
abbrev sl(b m:Nat):vZ:=.slice (some ⟨b,0,none⟩) m m
def qX(s:Lp)(p:Nat):Nat:=if h:p<s.size then(s[p]'h).toNat else 0
def Dr(s:Lp)(p:Nat):qX s p<256:=by
 unfold qX;split
 .exact UInt8.toNat_lt _
 .omega
def jD(s:Lp)(p:Nat):Nat:=if 96<=qX s p/\qX s p<=127 then qX s p - 94 else 1
def XE(s:Lp)(p:Nat):1<=jD s p:=by unfold jD;split<;>omega
def marks(s:Lp):Nat->Nat->Ff->Ff
 |0,_,A=>A
 |k+1,p,A=>if p<s.size then marks s k (p+jD s p) (A.setIfInBounds p (.bool ((qX s p:Int)==48))) else A
def PO(w:WR)(s:Lp):(Builtin.len_ #[9] 3 #[.string s]).events Tryz.prog w #[]=#[]:=by simp[Builtin.len_,go_sem]
def Ds(w:WR)(s:Lp)(p:Nat)(h:p<s.size):(Instr.index 9 (.string s) (.int .i64 p)).events Tryz.prog w #[]=#[]:=by simp[Instr.index,go_sem,h]
structure FM (X:K6)(b:Nat)(A:Ff)(w:WR):Prop where
 x:X w
 blk:w.heap[b]?=some (.cells A 4)
def XF{c:iF}{X:K6}(d:∀w a,X w->RX c Low i (· =b) w a->X a)(A:Ff):Env (RX c Low i (· =b)) (DB c Low b i) (FM X b A):=
 ⟨fun _ _ h r=>⟨d _ _ h.x r,(r.mine b rfl).tr h.blk⟩,fun w=>PM w⟩
noncomputable def gX:Code:=match Tryz.f99.body with
 |some (.seq _ (.seq _ (.seq (.seq _ (.block _ (.loop l))) _)))=>l
 |_=>.skip
noncomputable def oN:Code:=match Tryz.f99.body with
 |some (.seq _ (.seq _ (.seq _ r)))=>r
 |_=>.skip
def DZ(a:w.heap[b]?=some (.cells A 4))(c:p<A.size)(v:vZ):
  (∃u,w.cell? ⟨b,p,none⟩=some u)/\w.frozen? ⟨b,p,none⟩=false/\(w.setCell ⟨b,p,none⟩ v).heap[b]?=some (.cells (A.setIfInBounds p v) 4):=by
 refine⟨⟨A[p],by simp[World.cell?,a,c]⟩,by simp[World.frozen?,a],?_⟩;rw[setCell_eq_setRow w b p A _ (0,0) _ a,setRow_heap w b _ _ _ _ a]
def Dt{c:iF}(I:PL c)(d:b≠c.C)(o:w.heap[b]?=some (.cells A 4))(k:p<A.size)(v:vZ){j:aA}(f:∀e∈j,e=⟨.cell ⟨b,p,none⟩,true,false⟩):
  DB c Low b i w (w.setCell ⟨b,p,none⟩ v) j:=by
 have a:=aside_setCell w ⟨b,p,none⟩ v;have h:(w.sA b p v).heap[c.C]?=w.heap[c.C]?:=a.block _ (Ne.symm d);refine⟨a.size,fun n g _=>a.block n g,fun _=>⟨_,(0,0),by rw[I.tb];exact(DZ o k v).2.2⟩,fun⟨cs,g,m⟩=>⟨cs,by rw[h];exact g,m⟩,fun q _=>?_,fun e l=>.inr ⟨⟨b,p,none⟩,true,f e l,.inl rfl⟩,KW _ _ _,a.os,a.output⟩;simp only[World.cell?,h]
def Du(x:Nat)(h:x<256)(a:96<=x):IntKind.u8.wrap ((x:Int) - 96)=(x:Int) - 96:=by rw[IntKind.wrap_u8];omega
def round{c:iF}{X:World->Prop}(B:∀w e,X w->RX c Low i (· =b) w e->X e)(g:p<s.size)(F:A.size=s.size){Stop:Goroutine->World->Prop}{nn:Nat}(I:PL c)(u:b≠c.C)(z:∀w v,X w->X (World.setCell w ⟨b,p,none⟩ v))(S:s.size<2147483648)(h:∀v1 v2 v5 v6 v7 v8 v9 v10 v11 v12 v13 v14 v15 v16 v17 v18 v19 v20 v21 v22 v23 v24 v25:Value,cO Tryz.prog false (RX c Low i (· =b)) (DB c Low b i) Stop (FM X b (A.setIfInBounds p (.bool ((qX s p:Int)==48)))) nn (G ((base 99).at ⟨#[.string s,v1,v2,sl b s.size,vI ((p+jD s p:Nat):Int),v5,v6,v7,v8,v9,v10,v11,v12,v13,v14,v15,v16,v17,v18,v19,v20,v21,v22,v23,v24,v25],[]⟩ [.code gX,.inLoop gX,.inBlock 0,.code oN]) cs)):
  cO Tryz.prog false (RX c Low i (· =b)) (DB c Low b i) Stop (FM X b A) (nn+80) (G ((base 99).at ⟨#[.string s,v1,v2,sl b s.size,vI (p:Int),v5,v6,v7,v8,v9,v10,v11,v12,v13,v14,v15,v16,v17,v18,v19,v20,v21,v22,v23,v24,v25],[]⟩ [.code gX,.inLoop gX,.inBlock 0,.code oN]) cs):=by
 have E:=XF B A;obtain⟨L,H⟩:∃L,L=gX:=⟨_,rfl⟩;rw[<-H] at h⊢;generalize hr:oN=D at h⊢;have o:∀g,((s[p]'g).toNat:Int)=(qX s p:Int):=fun g=>by simp[qX,g]
 have U:(p:Int)<(s.size:Int):=oM
 have T:=fun w=>PO w s;have Y:=fun w=>Ds w s p g;have n:=H;simp only[gX,Tryz.f99] at n;rw[show(Item.code L)=Item.code _ from congrArg Item.code n];repeat (first
  |refine bU E ?_
  |refine cX E ?_
  |refine aP E ?_
  |refine bD E ?_
  |refine cC E ?_
  |refine cE E ?_
  |refine cF E ?_
  |refine bL E ?_
  |refine eQ E ?_
  |refine bM E rfl ?_
  |refine bZ E rfl ?_
  | (refine cH E rfl rfl ?_;walk_nrm)
  |refine cU E ?_
  |refine cP E ?_
  |refine cJ E ?_
  |refine eI E ?_
  |refine bM E (by simp[Act.eval];exact oM) ?_
  |refine bZ E (by simp[Act.eval];exact oM) ?_
  | (refine bV E rfl rfl (by k_ne) (fun w d K a=>?_);go_simp;refine a _ (by simp[go_sem, *]) ?_;clear a K d w;try w_num))
 try simp only[o]
 refine uT E (v:=.bool ((qX s p:Int)==48)) (F':=FM X b (A.setIfInBounds p (.bool ((qX s p:Int)==48)))) rfl rfl (by k_ne) rfl rfl rfl (fun _=>sI) (fun _=>sI) Tryz.sizeOf4 (fun w d=>?_) ?_
 ·obtain⟨Q,N,k⟩:=DZ d.blk (F▸g) (.bool ((qX s p:Int)==48))
  exact⟨Q,N,fun V x=>Dt I u d.blk (F▸g) _ x,⟨z _ _ d.x,k⟩⟩
 replace E:=XF B (A.setIfInBounds p (.bool ((qX s p:Int)==48)))
 walk_nrm
 repeat (first
  |refine bU E ?_
  |refine cX E ?_
  |refine aP E ?_
  |refine bD E ?_
  |refine cC E ?_
  |refine cE E ?_
  |refine cF E ?_
  |refine bL E ?_
  |refine eQ E ?_
  |refine bM E rfl ?_
  |refine bZ E rfl ?_
  | (refine cH E rfl rfl ?_;walk_nrm)
  |refine cU E ?_
  |refine cP E ?_
  |refine cJ E ?_
  |refine eI E ?_
  |refine bM E (by simp[Act.eval];exact oM) ?_
  |refine bZ E (by simp[Act.eval];exact oM) ?_
  | (refine bV E rfl rfl (by k_ne) (fun w d K a=>?_);go_simp;refine a _ (by simp[go_sem, *]) ?_;clear a K d w;try w_num))
 have j:=Dr s p;have t:=Du (qX s p) j;have P:((p+jD s p:Nat):Int)=(p:Int)+(jD s p:Int):=oM
 have f:∀y:Int,0<=y->y<=33->IntKind.i64.wrap ((p:Int)+y)=(p:Int)+y:=fun y Z W=>by rw[IntKind.wrap_i64];exact oM
 refine eY E rfl rfl (by k_ne) rfl Tryz.func147 No rfl ?_
 walk_nrmf Tryz.f147
 rcases aCi (qX s p) 96 with C|C
 ·have J:¬(96:Int)<=(qX s p:Int):=oM
  have m:jD s p=1:=by unfold jD;rw[if_neg oM]
  have l:IntKind.i64.wrap ((p:Int)+1)=(p:Int)+1:=f 1 oM oM;repeat (first
   |refine bU E ?_
   |refine cX E ?_
   |refine aP E ?_
   |refine bD E ?_
   |refine cC E ?_
   |refine cE E ?_
   |refine cF E ?_
   |refine bL E ?_
   |refine eQ E ?_
   |refine bM E rfl ?_
   |refine bZ E rfl ?_
   | (refine cH E rfl rfl ?_;walk_nrm)
   |refine cU E ?_
   |refine cP E ?_
   |refine cJ E ?_
   |refine eI E ?_
   |refine bM E (by simp[Act.eval];exact oM) ?_
   |refine bZ E (by simp[Act.eval];exact oM) ?_
   | (refine eP E rfl rfl Tryz.func147 rfl ?_;walk_nrm)
   | (refine bV E rfl rfl (by k_ne) (fun w d K a=>?_);go_simp;refine a _ (by simp[go_sem, *]) ?_;clear a K d w;try w_num))
  rw[show(p:Int)+1=((p+jD s p:Nat):Int) by rw[m];exact oM];exact fN E (h _ _ _ _ _ _ _ _ _ _ _ _ _ _ _ _ _ _ _ _ _ _ _) oM
 ·rcases aCi 127 (qX s p) with r|r
  ·have J:(96:Int)<=(qX s p:Int):=oM
   have q:¬(qX s p:Int)<=127:=oM
   have m:jD s p=1:=by unfold jD;rw[if_neg oM]
   have l:IntKind.i64.wrap ((p:Int)+1)=(p:Int)+1:=f 1 oM oM;repeat (first
    |refine bU E ?_
    |refine cX E ?_
    |refine aP E ?_
    |refine bD E ?_
    |refine cC E ?_
    |refine cE E ?_
    |refine cF E ?_
    |refine bL E ?_
    |refine eQ E ?_
    |refine bM E rfl ?_
    |refine bZ E rfl ?_
    | (refine cH E rfl rfl ?_;walk_nrm)
    |refine cU E ?_
    |refine cP E ?_
    |refine cJ E ?_
    |refine eI E ?_
    |refine bM E (by simp[Act.eval];exact oM) ?_
    |refine bZ E (by simp[Act.eval];exact oM) ?_
    | (refine eP E rfl rfl Tryz.func147 rfl ?_;walk_nrm)
    | (refine bV E rfl rfl (by k_ne) (fun w d K a=>?_);go_simp;refine a _ (by simp[go_sem, *]) ?_;clear a K d w;try w_num))
   rw[show(p:Int)+1=((p+jD s p:Nat):Int) by rw[m];exact oM];exact fN E (h _ _ _ _ _ _ _ _ _ _ _ _ _ _ _ _ _ _ _ _ _ _ _) oM
  ·have J:(96:Int)<=(qX s p:Int):=oM
   have q:(qX s p:Int)<=127:=oM
   have m:jD s p=qX s p - 94:=by unfold jD;rw[if_pos oM]
   have M:=t C;have R:IntKind.i64.wrap ((qX s p:Int) - 96)=(qX s p:Int) - 96:=by rw[IntKind.wrap_i64];exact oM
   have O:IntKind.i64.wrap ((qX s p:Int) - 96+2)=(qX s p:Int) - 96+2:=by rw[IntKind.wrap_i64];exact oM
   have l:=f ((qX s p:Int) - 96+2) oM oM;repeat (first
    |refine bU E ?_
    |refine cX E ?_
    |refine aP E ?_
    |refine bD E ?_
    |refine cC E ?_
    |refine cE E ?_
    |refine cF E ?_
    |refine bL E ?_
    |refine eQ E ?_
    |refine bM E rfl ?_
    |refine bZ E rfl ?_
    | (refine cH E rfl rfl ?_;walk_nrm)
    |refine cU E ?_
    |refine cP E ?_
    |refine cJ E ?_
    |refine eI E ?_
    |refine bM E (by simp[Act.eval];exact oM) ?_
    |refine bZ E (by simp[Act.eval];exact oM) ?_
    | (refine eP E rfl rfl Tryz.func147 rfl ?_;walk_nrm)
    | (refine bV E rfl rfl (by k_ne) (fun w d K a=>?_);go_simp;refine a _ (by simp[go_sem, *]) ?_;clear a K d w;try w_num))
   rw[show(p:Int)+((qX s p:Int) - 96+2)=((p+jD s p:Nat):Int) by rw[m];exact oM];exact fN E (h _ _ _ _ _ _ _ _ _ _ _ _ _ _ _ _ _ _ _ _ _ _ _) oM
def KY{c:iF}{X:K6}{d:WM}(j:∀w a,X w->RX c Low i (· =b) w a->X a)(m:s.size<=p)(h:cO prog false (RX c Low i (· =b)) (DB c Low b i) d (FM X b A) nT (G (b₀.at (a₀.put ((ops0[i₀]?).bind (·.dst)) (sl b s.size)) (.inRegion ops0 rest0::k₀)) cs)):
  cO prog false (RX c Low i (· =b)) (DB c Low b i) d (FM X b A) (nT+40) (G ((base 99).at ⟨#[.string s,v1,v2,sl b s.size,vI (p:Int),v5,v6,v7,v8,v9,v10,v11,v12,v13,v14,v15,v16,v17,v18,v19,v20,v21,v22,v23,v24,v25],[]⟩ [.code gX,.inLoop gX,.inBlock 0,.code oN]) (b₀.at a₀ (.inRegion ops0 (i₀::rest0)::k₀)::cs)):=by
 have E:=XF j A;obtain⟨L,g⟩:∃L,L=gX:=⟨_,rfl⟩;rw[<-g];have l:¬(p:Int)<(s.size:Int):=oM
 have n:=fun w=>PO w s;have e:=g;simp only[gX,f99] at e;rw[show(Item.code L)=Item.code _ from congrArg Item.code e];simp only[oN,f99];repeat (first
  |refine bU E ?_
  |refine aP E ?_
  |refine bI E ?_
  |refine cC E ?_
  |refine bZ E rfl ?_
  |refine RZ E rfl ?_
  |refine eI E ?_
  |refine bZ E sQ4 ?_
  | (refine bV E rfl rfl sQ2 (fun w k K f=>?_);go_simp;refine f _ sQ1 ?_;clear f K k w;try w_num))
 refine eP E rfl rfl func99 rfl ?_;exact fN E h oM
section
variable{c:iF}{Low:Nat}{i:Nat}{b:Nat}{X:K6}{a:WM}{b₀:Frame}{a₀:Act}{ops0:DQ}{i₀:Nat}{rest0:K4}{k₀:List Item}{cs:eX}{s:Lp}{nT:Nat}
theorem KZ(I:PL c)(f:b≠c.C)(e:∀w d,X w->RX c Low i (· =b) w d->X d)(j:∀w p v,X w->X (World.setCell w ⟨b,p,none⟩ v))(g:s.size<2147483648):
  ∀(k p:Nat) (A:Ff) (v1 v2 v5 v6 v7 v8 v9 v10 v11 v12 v13 v14 v15 v16 v17 v18 v19 v20 v21 v22 v23 v24 v25:vZ),s.size - p<=k->A.size=s.size->cO prog false (RX c Low i (· =b)) (DB c Low b i) a (FM X b (marks s k p A)) nT (G (b₀.at (a₀.put ((ops0[i₀]?).bind (·.dst)) (sl b s.size)) (.inRegion ops0 rest0::k₀)) cs)->
   cO prog false (RX c Low i (· =b)) (DB c Low b i) a (FM X b A) (nT+40+80*k) (G ((base 99).at ⟨#[.string s,v1,v2,sl b s.size,vI (p:Int),v5,v6,v7,v8,v9,v10,v11,v12,v13,v14,v15,v16,v17,v18,v19,v20,v21,v22,v23,v24,v25],[]⟩ [.code gX,.inLoop gX,.inBlock 0,.code oN]) (b₀.at a₀ (.inRegion ops0 (i₀::rest0)::k₀)::cs))
 |0,p,A,v1,v2,v5,v6,v7,v8,v9,v10,v11,v12,v13,v14,v15,v16,v17,v18,v19,v20,v21,v22,v23,v24,v25,n,l,h=>by exact KY e oM h
 |k+1,p,A,v1,v2,v5,v6,v7,v8,v9,v10,v11,v12,v13,v14,v15,v16,v17,v18,v19,v20,v21,v22,v23,v24,v25,n,l,h=>by
  have E:=XF e A;unfold marks at h;split at h
  .rename_i m;have o:=XE s p;have:=round (nn:=nT+40+80*k) e m l I f (fun w v=>j w p v) g (Stop:=a) (cs:=(b₀.at a₀ (.inRegion ops0 (i₀::rest0)::k₀)::cs)) (v1:=v1) (v2:=v2) (v5:=v5) (v6:=v6) (v7:=v7) (v8:=v8) (v9:=v9) (v10:=v10) (v11:=v11) (v12:=v12) (v13:=v13) (v14:=v14) (v15:=v15) (v16:=v16) (v17:=v17) (v18:=v18) (v19:=v19) (v20:=v20) (v21:=v21) (v22:=v22) (v23:=v23) (v24:=v24) (v25:=v25) (fun v1 v2 v5 v6 v7 v8 v9 v10 v11 v12 v13 v14 v15 v16 v17 v18 v19 v20 v21 v22 v23 v24 v25=>KZ I f e j g k (p+jD s p) _ v1 v2 v5 v6 v7 v8 v9 v10 v11 v12 v13 v14 v15 v16 v17 v18 v19 v20 v21 v22 v23 v24 v25 oM (by simpa using l) h);exact fN E this oM
  .rename_i m;exact fN E (KY e oM h) oM
end
def fI(n:Nat):Ff:=madeCells (Value.cells (.bool false)) n
def qV(n:Nat):(fI n).size=n:=size_madeCells _ _
noncomputable def jl:DQ:=match Tryz.f99.body with
 |some (.seq _ (.seq (.region _ o _) _))=>o
 |_=>#[]
noncomputable def GW:Code:=match Tryz.f99.body with
 |some (.seq _ (.seq _ r))=>r
 |_=>.skip
def jm{c:iF}{X:K6}{d:WM}(I:PL c)(g:b≠c.C)(l:∀w a,X w->RX c Low i (· =b) w a->X a)(k:∀w p v,X w->X (World.setCell w ⟨b,p,none⟩ v))(j:s.size<2147483648)(h:cO prog false (RX c Low i (· =b)) (DB c Low b i) d (FM X b (marks s s.size 0 (fI s.size))) nT (G (b₀.at (a₀.put ((ops0[i₀]?).bind (·.dst)) (sl b s.size)) (.inRegion ops0 rest0::k₀)) cs)):
  cO prog false (RX c Low i (· =b)) (DB c Low b i) d (FM X b (fI s.size)) (nT+40+80*s.size+40) (G ((base 99).at ⟨#[.string s,ud,.sl none 0 0,ud,ud,.string s,vI (s.size:Int),sl b s.size,ud,ud,ud,ud,ud,ud,ud,ud,ud,ud,ud,ud,ud,ud,ud,ud,ud,ud],[]⟩ [.inRegion jl [3],.code GW]) (b₀.at a₀ (.inRegion ops0 (i₀::rest0)::k₀)::cs)):=by
 have E:=XF l (fI s.size);obtain⟨L,n⟩:∃L,L=gX:=⟨_,rfl⟩;obtain⟨q,o⟩:∃r,r=oN:=⟨_,rfl⟩;have f:=n;have e:=o;simp only[gX,f99] at f;simp only[oN,f99] at e;simp only[GW,jl,f99];rw[<-f,<-e];repeat (first
  |refine bU E ?_
  |refine aP E ?_
  |refine bD E ?_
  |refine cU E ?_
  |refine GS E ?_
  | (refine bV E rfl rfl sQ2 (fun w t K m=>?_);go_simp;refine m _ sQ1 ?_;clear m K t w;try w_num))
 rw[n,o];exact fN E (n:=nT+40+80*s.size) (KZ I g l k j s.size 0 (fI s.size) _ _ _ _ _ _ _ _ _ _ _ _ _ _ _ _ _ _ _ _ _ _ _ oM (qV _) h) oM
section
structure WK (c:iF)(i bm bi ba bw bf:Nat)(s:ByteArray)(w:World):Prop where
 mv:w.heap[bm]?=some (.cells #[sl c.C c.n] 122)
 iv:w.heap[bi]?=some (.cells #[.int .i64 (i:Int)] 3)
 av:∃x:Array Value,w.heap[ba]?=some (.cells x 52)/\x[6]?=some (.string s)
 wv:w.heap[bw]?=some (.cells #[pt c.Wg] 234)
 fv:w.heap[bf]?=some (.cells #[.func (.func 98) #[] #[pt ba,pt bm,pt bi]] 1)
 live:WgLive 189 c.Wg w
 pay:PayAt c.C c.n w
structure Bx (c:iF)(Low bm bi ba bw bf:Nat):Prop where
 m:XB c Low bm
 i:XB c Low bi
 a:XB c Low ba
 w:XB c Low bw
 f:XB c Low bf
section
variable {c:iF}(I:PL c){Low i bm bi ba bw bf:Nat}(B:Bx c Low bm bi ba bw bf){s:Lp}{w w₁:WR}{own:Nat->Prop}
theorem WK.rely(I:PL c)(B:Bx c Low bm bi ba bw bf)(h:WK c i bm bi ba bw bf s w)(r:RX c Low i own w w₁):WK c i bm bi ba bw bf s w₁:=
 ⟨uS I B.m r h.mv dC,uS I B.i r h.iv dC,let⟨x,b,a⟩:=h.av;⟨x,uS I B.a r b dC,a⟩,uS I B.w r h.wv dC,uS I B.f r h.fv dC,by have:=r.live;rw[I.ty] at this;exact this h.live,r.pay h.pay⟩
theorem WK.other{b:Nat}(h:WK c i bm bi ba bw bf s w)(a:∀d,d≠b->∀o:Obj,w.heap[d]?=some o->w₁.heap[d]?=some o)(m:b≠bm)(j:b≠bi)(h3:b≠ba)(h4:b≠bw)(p:b≠bf)(r:b≠c.Wg)(n:b≠c.C):WK c i bm bi ba bw bf s w₁:=
 ⟨a _ (Ne.symm m) _ h.mv,a _ (Ne.symm j) _ h.iv,let⟨x,g,f⟩:=h.av;⟨x,a _ (Ne.symm h3) _ g,f⟩,a _ (Ne.symm h4) _ h.wv,a _ (Ne.symm p) _ h.fv,
  let⟨q,k,e⟩:=h.live;⟨q,k,a _ (Ne.symm r) _ e⟩,let⟨l,g,f⟩:=h.pay;⟨l,a _ (Ne.symm n) _ g,f⟩⟩
structure LA (c:iF)(bm bi ba bw bf b:Nat):Prop where
 m:b≠bm
 i:b≠bi
 a:b≠ba
 w:b≠bw
 f:b≠bf
 g:b≠c.Wg
 c:b≠c.C
theorem WK.set{b p:Nat}(N:LA c bm bi ba bw bf b)(v:vZ)(h:WK c i bm bi ba bw bf s w):WK c i bm bi ba bw bf s (w.setCell ⟨b,p,none⟩ v):=
 h.other (b:=b) (fun d e _ a=>((aside_setCell w ⟨b,p,none⟩ v).block d e).tr a) N.m N.i N.a N.w N.f N.g N.c
theorem lt_of_heap{b:Nat}{o:Obj}(h:w.heap[b]?=some o):b<w.heap.size:=(aAu.1 h).1
theorem WK.fresh(h:WK c i bm bi ba bw bf s w):LA c bm bi ba bw bf w.heap.size:=by have f:=lt_of_heap h.mv;have a:=lt_of_heap h.iv;have g:=lt_of_heap h.av.choose_spec.1;have d:=lt_of_heap h.wv;have j:=lt_of_heap h.fv;have⟨_,_,e⟩:=h.live;have k:=lt_of_heap e;have⟨_,e,_⟩:=h.pay;have b:=lt_of_heap e;constructor<;>omega
theorem WK.alloc(h:WK c i bm bi ba bw bf s w)(o:Obj):WK c i bm bi ba bw bf s (w.alloc o):=by have N:=h.fresh;refine h.other (b:=w.heap.size) (fun b d e a=>?_) N.m N.i N.a N.w N.f N.g N.c;have:=lt_of_heap a;show(w.heap.push o)[b]?=_;rw[aBF this];rw[<-a,aAN this]
theorem WK.aL(I:PL c)(B:Bx c Low bm bi ba bw bf)(h:WK c i bm bi ba bw bf s w)(o:Obj):WK c i bm bi ba bw bf s (w.alloc o):=WK.alloc h o
theorem Dv(w:WR):DA c Low w w #[]:=⟨⟨w.drawn,rfl⟩,fun e a=>by simp at a⟩
theorem PQ(I:PL c)(B:Bx c Low bm bi ba bw bf):Env (RX c Low i own) (DA c Low) (WK c i bm bi ba bw bf s):=⟨fun _ _ h r=>h.rely I B r,fun w=>Dv w⟩
theorem zY(I:PL c)(B:Bx c Low bm bi ba bw bf){b:Nat}(A:Ff):Env (RX c Low i (· =b)) (DB c Low b i) (FM (WK c i bm bi ba bw bf s) b A):=XF (fun _ _ h r=>h.rely I B r) A
theorem yq:Tryz.prog.info? 4=some Tryz.t4:=kR
theorem run_mk(I:PL c){o:Oper}{ev:Operand->vZ}{x:Operand}(a:o.op=.makeSlice 132 x x)(d:ev x=.int .i64 (s.size:Int))(e:s.size<2147483648)(w:WR):
  (execOp ev o).run Tryz.prog w=.ok (.value (sl w.heap.size s.size)) (made c w (fI s.size))/\(execOp ev o).events Tryz.prog w #[]=#[]:=by
 have b:=run_make (P:=prog) w 132 4 Tryz.t4 (.bool false) underlying132 yq rfl .i64 .i64 s.size s.size oM oM (by simp only[Tryz.t4];omega) oM;have f:=events_make (P:=prog) w 132 4 Tryz.t4 (.bool false) underlying132 yq rfl .i64 .i64 s.size s.size oM oM (by simp only[Tryz.t4];omega) oM (by simp only[Tryz.t4];omega) #[];simp only[aBM,Tryz.t4,aCo] at b;unfold execOp made fI;rw[I.tb];constructor
 .simp only[a,d,Sem.run_bind,b];rfl
 .simp only[a,d,Sem.events_bind,b,f];rfl
theorem jo(I:PL c)(B:Bx c Low bm bi ba bw bf){nT:Nat}{l:Frame}{j:Act}{a:Array Oper}{f:Nat}{d:List Nat}{g:List Item}{z:List Frame}(n:s.size<2147483648)(F:∀b,LA c bm bi ba bw bf b->cO prog false (RX c Low i (· =b)) (DB c Low b i) (DS c i b) (FM (WK c i bm bi ba bw bf s) b (marks s s.size 0 (fI s.size))) nT (G (l.at (j.put ((a[f]?).bind (·.dst)) (sl b s.size)) (.inRegion a d::g)) z)):
    cO prog false (RX c Low i (fun _=>False)) (DA c Low) (uP c Low i (nT+40+80*s.size+40)) (WK c i bm bi ba bw bf s) 40 (G ((base 99).at ⟨#[.string s]++Array.replicate 25 ud,[]⟩ [.code (f99.body.getD .skip)]) (l.at j (.inRegion a (f::d)::g)::z)):=by
  have E:=PQ (own:=fun _=>False) (s:=s) (i:=i) I B;have J:=fun w=>PO w s;obtain⟨H,m⟩:∃r,r=GW:=⟨_,rfl⟩;have k:=m;simp only[GW,f99] at k;simp only[f99,aAK];rw[<-k]
  walk_nrm
  repeat (first
    |refine bU E ?_
    |refine aP E ?_
    |refine bD E ?_
    |refine cC E ?_
    | (refine bV E rfl rfl (by k_ne) (fun w q K A=>?_);go_simp;refine A _ (by simp[go_sem, *]) ?_;clear A K q w;try w_num))
  refine cD E fun w q=>?_;have N:=q.fresh;have M:=jm I N.c (fun _ _ h r=>h.rely I B r) (fun w p v h=>h.set (p:=p) N v) n (F _ N);simp only[jl,f99] at M;rw[<-m] at M;have C:=fun{o y x} u D=>run_mk (o:=o) (ev:=y) (x:=x) I u D n w;unfold uP;rw[I.P];refine⟨rfl,_,fI s.size,_,stepG_value rfl rfl (by k_ne) (C rfl rfl).1,fun e t=>?_,M _ ⟨q.alloc _,?_⟩⟩
  · have t:=mem_listed t
    rw[(C rfl rfl).2] at t;simp at t
  · show(w.heap.push (.ce (fI s.size) c.tb))[w.heap.size]?=_
    rw[I.tb,aAT]
end
end
section
def Ord(b:DQ)(a:Nat)(listed:Array Bool)(l:K4):Prop:=∃t,l=Region.linearise.go .any b a t listed []
theorem dW{a:DQ}{b:Nat}{listed:Array Bool}{l rs:K4}(h:Ord a (b+1) listed l)(f:Region.ready .any a listed=rs)(d:rs≠[]):∃i∈rs,∃e,l=i::e/\Ord a b (listed.setIfInBounds i true) e:=by
 obtain⟨t,rfl⟩:=h;subst f;simp only[Region.linearise.go];have c:t % (Region.ready .any a listed).length<(Region.ready .any a listed).length:=aBE _ (List.length_pos_iff.2 d);refine⟨(Region.ready .any a listed)[t % (Region.ready .any a listed).length],aBf _,_,?_,t / (Region.ready .any a listed).length,rfl⟩;change(match (Region.ready .any a listed)[t % (Region.ready .any a listed).length]? with
  |some i=>Region.linearise.go .any a b (t / (Region.ready .any a listed).length) (listed.setIfInBounds i true) [i]
  |none=>[].reverse)=_
 rw[aAG c];simp only[];rw[linearise_go_acc,List.reverse_singleton,List.singleton_append]
theorem uq{a:DQ}{listed:Array Bool}{l:K4}(h:Ord a 0 listed l):l=[]:=by obtain⟨t,rfl⟩:=h;rfl
theorem Dw{a:DQ}{n:Nat}{listed:Array Bool}(c:a.size=n)(b:Array.replicate n false=listed)(t:Nat):Ord a n listed (Region.schedule true a t):=by subst c b;exact⟨t,by simp only[Region.schedule,Bool.true_or,if_true];rfl⟩
noncomputable def gG:DQ:=match Tryz.f98.body with
 |some (.region _ o _)=>o
 |_=>#[]
abbrev HO(c:iF)(i:Nat)(s:ByteArray):Prop:=∀(w:World) (b:Nat),w.heap[b]?=some (.cells (marks s s.size 0 (fI s.size)) 4)->w.cell? ⟨c.C,i,none⟩=some (sl b s.size)->c.Out i b w
noncomputable abbrev qY(ba bm bi bw:Nat)(T47:Array Value)(ops47:Array Oper)(i₀:Nat)(l:List Nat)(x3 x4 x5 x6 x7:Value):Goroutine:=G ((base 98).at ⟨#[pt ba,pt bm,pt bi,x3,x4,x5,x6,x7,undef],[]⟩ [.inRegion gG l]) [(baseD 144).at ⟨T47,[nJ 145 #[pt bw]]⟩ [.inRegion ops47 [i₀]],bot]
abbrev GA(c:iF)(Low i bm bi ba bw bf:Nat)(s:ByteArray)(n:Nat)(g:Goroutine):Prop:=cO Tryz.prog false (RX c Low i (fun _=>False)) (DA c Low) (uP c Low i (150+40+80*s.size+40)) (WK c i bm bi ba bw bf s) n g
abbrev GB(c:iF)(Low i bm bi ba bw bf:Nat)(s:ByteArray)(b n:Nat)(g:Goroutine):Prop:=cO Tryz.prog false (RX c Low i (· =b)) (DB c Low b i) (DS c i b) (FM (WK c i bm bi ba bw bf s) b (marks s s.size 0 (fI s.size))) n g
section
variable {c:iF}(I:PL c){Low i bm bi ba bw bf b:Nat}(B:Bx c Low bm bi ba bw bf){s:Lp}{T47:Ff}{ops47:DQ}{i₀:Nat}{l:K4}
theorem ur(I:PL c)(B:Bx c Low bm bi ba bw bf)(s:i<c.n)(l:b≠c.C){w:WR}(p:PayAt c.C c.n w)(v:vZ){es:aA}(m:∀e∈es,e=⟨.cell ⟨c.C,i,none⟩,true,false⟩):
  ((∃u,w.cell? ⟨c.C,i,none⟩=some u)/\w.frozen? ⟨c.C,i,none⟩=false)/\DB c Low b i w (w.setCell ⟨c.C,i,none⟩ v) es/\Has c.C i v (w.setCell ⟨c.C,i,none⟩ v)/\∀a,a≠c.C->(w.setCell ⟨c.C,i,none⟩ v).heap[a]?=w.heap[a]?:=by
 have d:=aside_setCell w ⟨c.C,i,none⟩ v;have⟨arr,h,o⟩:=p;have j:(w.setCell ⟨c.C,i,none⟩ v).heap[c.C]?=some (.cells (arr.setIfInBounds i v) Payload.ety):=by rw[setCell_eq_setRow w c.C i arr _ (0,0) _ h,setRow_heap w c.C _ _ _ _ h]
 have g:i<arr.size:=oM
 refine⟨⟨⟨arr[i],by simp[World.cell?,h,g]⟩,by simp[World.frozen?,h]⟩,⟨d.size,fun a h3 h4=>d.block a h4,fun⟨x,f,q⟩=>⟨x,f,(d.block b l).tr q⟩,fun _=>⟨_,j,by simpa using o⟩,fun t k=>?_,fun e r=>.inr ⟨⟨c.C,i,none⟩,true,m e r,.inr rfl⟩,KW _ _ _,d.os,d.output⟩,?_,fun a n=>d.block a n⟩
 .simp[World.cell?,j,h,aAH (Ne.symm k)]
 .simp[Has,World.cell?,j,g]
theorem xC{w:WR}{a:aA}(h:∀e∈a,yk c Low w e):DA c Low w w a:=⟨⟨w.drawn,rfl⟩,h⟩
theorem uU(I:PL c){w:WR}{fn:FuncId}{a:Act}{o:Oper}{d k:Nat}{x:Ff}{e:Fh}{f:Nat×Nat}(l:XB c Low d)(h:w.heap[d]?=some (.cells x e f))(j:e≠4)(g:(execOp a.eval o).events Tryz.prog w #[]=#[⟨.cell ⟨d,k,none⟩,false,false⟩]):
  ∀i∈listed Tryz.prog fn a o w,yk c Low w i:=fun i b=>by
 have b:=mem_listed b;rw[g,aBH] at b;subst b;exact SD I l h j
theorem XG(I:PL c)(B:Bx c Low bm bi ba bw bf){n:Nat}{b e d:vZ}(h:GA c Low i bm bi ba bw bf s n (qY ba bm bi bw T47 ops47 i₀ l (sl c.C c.n) b e d ud)):GA c Low i bm bi ba bw bf s (n+2) (qY ba bm bi bw T47 ops47 i₀ (0::l) ud b e d ud):=by have E:=PQ (own:=fun _=>False) (s:=s) (i:=i) I B;refine gF E rfl rfl sQ2 (fun w a=>(dF rfl rfl sizeOf122 isAgg122 (cell_of a.mv)).1) (fun w a=>xC (uU I B.m a.mv dC (dF rfl rfl sizeOf122 isAgg122 (cell_of a.mv)).2)) (n:=n+1) ?_;exact fN E h oM
theorem XH(I:PL c)(B:Bx c Low bm bi ba bw bf){n:Nat}{d e b:vZ}(h:GA c Low i bm bi ba bw bf s n (qY ba bm bi bw T47 ops47 i₀ l d (vI (i:Int)) e b ud)):GA c Low i bm bi ba bw bf s (n+2) (qY ba bm bi bw T47 ops47 i₀ (1::l) d ud e b ud):=by have E:=PQ (own:=fun _=>False) (s:=s) (i:=i) I B;refine gF E rfl rfl sQ2 (fun w a=>(dF rfl rfl sizeOf3 isAgg3 (cell_of a.iv)).1) (fun w a=>xC (uU I B.i a.iv dC (dF rfl rfl sizeOf3 isAgg3 (cell_of a.iv)).2)) (n:=n+1) ?_;exact fN E h oM
theorem uv(I:PL c)(B:Bx c Low bm bi ba bw bf){n:Nat}{f e:vZ}(h:GA c Low i bm bi ba bw bf s n (qY ba bm bi bw T47 ops47 i₀ l f e (.pointer (some (ad ba 6))) (.string s) ud)):GA c Low i bm bi ba bw bf s (n+2) (qY ba bm bi bw T47 ops47 i₀ (3::l) f e (.pointer (some (ad ba 6))) ud ud):=by
 have E:=PQ (own:=fun _=>False) (s:=s) (i:=i) I B;refine gF E (v:=.string s) rfl rfl sQ2 (fun w d=>?_) (fun w d=>?_) (n:=n+1) ?_
 .have⟨x,a,b⟩:=d.av;exact(dF rfl rfl sizeOf9 isAgg9 (by simp[World.cell?,a,b])).1
 .have⟨x,a,b⟩:=d.av;exact xC (uU I B.a a dC (dF (v:=.string s) rfl rfl sizeOf9 isAgg9 (by simp[World.cell?,a,b])).2)
 exact fN E h oM
theorem uw(I:PL c)(B:Bx c Low bm bi ba bw bf){n:Nat}{d a:vZ}(h:GA c Low i bm bi ba bw bf s n (qY ba bm bi bw T47 ops47 i₀ l d a (.pointer (some (ad ba 6))) ud ud)):GA c Low i bm bi ba bw bf s (n+2) (qY ba bm bi bw T47 ops47 i₀ (2::l) d a ud ud ud):=by have E:=PQ (own:=fun _=>False) (s:=s) (i:=i) I B;refine bV E rfl rfl sQ2 (n:=n+1) fun w e K b=>?_;simp only[gG,f98] at b⊢;go_simp;refine b _ sQ1 ?_;exact fN E h oM
theorem ux(I:PL c)(B:Bx c Low bm bi ba bw bf){n:Nat}{e d:vZ}(f:60<=n+1)(a:s.size<2147483648)(h:∀b,LA c bm bi ba bw bf b->GB c Low i bm bi ba bw bf s b 150 (qY ba bm bi bw T47 ops47 i₀ l e d (.pointer (some (ad ba 6))) (.string s) (sl b s.size))):GA c Low i bm bi ba bw bf s (n+1) (qY ba bm bi bw T47 ops47 i₀ (4::l) e d (.pointer (some (ad ba 6))) (.string s) ud):=by
 have E:=PQ (own:=fun _=>False) (s:=s) (i:=i) I B;refine eY E rfl rfl sQ2 rfl func99 Nn (c:=f99.body.getD .skip) rfl (n:=n) ?_
 walk_nrm
 rw[show f99.ntmps - 1=25 from rfl];exact fN E (jo I B (nT:=150) a h) oM
theorem Iu(I:PL c)(B:Bx c Low bm bi ba bw bf){n:Nat}{d g e f:vZ}(h:GB c Low i bm bi ba bw bf s b n (qY ba bm bi bw T47 ops47 i₀ l (sl c.C c.n) d g e f)):GB c Low i bm bi ba bw bf s b (n+5) (qY ba bm bi bw T47 ops47 i₀ (0::l) ud d g e f):=by have E:=zY (s:=s) (i:=i) (b:=b) I B (marks s s.size 0 (fI s.size));refine gF E rfl rfl sQ2 (fun w a=>(dF rfl rfl sizeOf122 isAgg122 (cell_of a.x.mv)).1) (fun w a=>GV (uU I B.m a.x.mv dC (dF rfl rfl sizeOf122 isAgg122 (cell_of a.x.mv)).2)) (n:=n+4) ?_;exact fN E h oM
theorem Iv(I:PL c)(B:Bx c Low bm bi ba bw bf){n:Nat}{e g d f:vZ}(h:GB c Low i bm bi ba bw bf s b n (qY ba bm bi bw T47 ops47 i₀ l e (vI (i:Int)) g d f)):GB c Low i bm bi ba bw bf s b (n+5) (qY ba bm bi bw T47 ops47 i₀ (1::l) e ud g d f):=by have E:=zY (s:=s) (i:=i) (b:=b) I B (marks s s.size 0 (fI s.size));refine gF E rfl rfl sQ2 (fun w a=>(dF rfl rfl sizeOf3 isAgg3 (cell_of a.x.iv)).1) (fun w a=>GV (uU I B.i a.x.iv dC (dF rfl rfl sizeOf3 isAgg3 (cell_of a.x.iv)).2)) (n:=n+4) ?_;exact fN E h oM
theorem Dx(I:PL c)(B:Bx c Low bm bi ba bw bf)(z:i<c.n)(f:HO c i s)(N:LA c bm bi ba bw bf b)(o:Ord gG 2 #[true,true,true,true,true,false,false] l):GB c Low i bm bi ba bw bf s b 140 (qY ba bm bi bw T47 ops47 i₀ l (sl c.C c.n) (vI (i:Int)) (.pointer (some (ad ba 6))) (.string s) (sl b s.size)):=by
 have E:=zY (s:=s) (i:=i) (b:=b) I B (marks s s.size 0 (fI s.size));obtain⟨j,g,G,rfl,p⟩:=dW o (rs:=[5]) kR sI;simp only[aAx,aAC,or_false] at g;rcases g with rfl
 .have D:(i:Int)<(c.n:Int):=oM
  refine bV E rfl rfl sQ2 (n:=139) fun w d K m=>?_;simp only[gG,f98] at m⊢;go_simp;refine m _ sQ1 ?_;clear m K d w;obtain⟨j,g,F,rfl,k⟩:=dW p (rs:=[6]) kR sI;simp only[aAx,aAC,or_false] at g;subst g;have u:=uq k;subst u;refine uT E (v:=sl b s.size) (F':=FT c i b bw (sl b s.size)) rfl rfl sQ2 rfl rfl rfl (fun _=>sI) (fun _=>sI) sizeOf132 (n:=138) (fun w d=>?_) ?_
  .have q:=fun h a=>ur (Low:=Low) (b:=b) I B z N.c d.x.pay (sl b s.size) (es:=h) a;have⟨⟨y,x⟩,_,t,n⟩:=q #[] (fun e C=>by simp at C);refine⟨y,x,fun h a=>(q h a).2.1,⟨?_,t,(n bw B.w.cc).tr d.x.wv,f _ b ((n b N.c).tr d.blk) t⟩⟩;have⟨A,v,o⟩:=d.x.live;exact⟨A,v,(n c.Wg I.Nj.hCW.symm).tr o⟩
  have r:=It (b:=b) (i:=i) (val:=sl b s.size) I B.w;refine aP r ?_;exact fN r (tail I B.w) oM
theorem Iw(I:PL c)(B:Bx c Low bm bi ba bw bf)(g:i<c.n)(a:HO c i s)(N:LA c bm bi ba bw bf b)(f:Ord gG 3 #[true,false,true,true,true,false,false] l):GB c Low i bm bi ba bw bf s b 145 (qY ba bm bi bw T47 ops47 i₀ l (sl c.C c.n) ud (.pointer (some (ad ba 6))) (.string s) (sl b s.size)):=by
 obtain⟨j,e,h,rfl,d⟩:=dW f (rs:=[1]) kR sI;simp only[aAx,aAC,or_false] at e;rcases e with rfl
 .exact Iv I B (Dx I B g a N d)
theorem Ix(I:PL c)(B:Bx c Low bm bi ba bw bf)(g:i<c.n)(a:HO c i s)(N:LA c bm bi ba bw bf b)(f:Ord gG 3 #[false,true,true,true,true,false,false] l):GB c Low i bm bi ba bw bf s b 145 (qY ba bm bi bw T47 ops47 i₀ l ud (vI (i:Int)) (.pointer (some (ad ba 6))) (.string s) (sl b s.size)):=by
 obtain⟨j,e,h,rfl,d⟩:=dW f (rs:=[0]) kR sI;simp only[aAx,aAC,or_false] at e;rcases e with rfl
 .exact Iu I B (Dx I B g a N d)
theorem Np(I:PL c)(B:Bx c Low bm bi ba bw bf)(f:i<c.n)(a:HO c i s)(N:LA c bm bi ba bw bf b)(g:Ord gG 4 #[false,false,true,true,true,false,false] l):GB c Low i bm bi ba bw bf s b 150 (qY ba bm bi bw T47 ops47 i₀ l ud ud (.pointer (some (ad ba 6))) (.string s) (sl b s.size)):=by
 obtain⟨j,e,h,rfl,d⟩:=dW g (rs:=[0, 1]) kR sI;simp only[aAx,aAC,or_false] at e;rcases e with rfl|rfl
 .exact Iu I B (Iw I B f a N d)
 .exact Iv I B (Ix I B f a N d)
theorem Dy(I:PL c)(B:Bx c Low bm bi ba bw bf)(h:i<c.n)(d:s.size<2147483648)(a:HO c i s)(g:Ord gG 3 #[true,true,true,true,false,false,false] l):GA c Low i bm bi ba bw bf s 60 (qY ba bm bi bw T47 ops47 i₀ l (sl c.C c.n) (vI (i:Int)) (.pointer (some (ad ba 6))) (.string s) ud):=by
 obtain⟨j,f,k,rfl,e⟩:=dW g (rs:=[4]) kR sI;simp only[aAx,aAC,or_false] at f;rcases f with rfl
 .exact ux (n:=59) I B oM d fun b N=>fN (zY I B _) (Dx I B h a N e) oM
theorem Iy(I:PL c)(B:Bx c Low bm bi ba bw bf)(g:i<c.n)(d:s.size<2147483648)(a:HO c i s)(h:Ord gG 4 #[true,false,true,true,false,false,false] l):GA c Low i bm bi ba bw bf s 62 (qY ba bm bi bw T47 ops47 i₀ l (sl c.C c.n) ud (.pointer (some (ad ba 6))) (.string s) ud):=by
 obtain⟨j,f,k,rfl,e⟩:=dW h (rs:=[1, 4]) kR sI;simp only[aAx,aAC,or_false] at f;rcases f with rfl|rfl
 .exact XH I B (Dy I B g d a e)
 .exact ux (n:=61) I B oM d fun b N=>fN (zY I B _) (Iw I B g a N e) oM
theorem Iz(I:PL c)(B:Bx c Low bm bi ba bw bf)(g:i<c.n)(d:s.size<2147483648)(a:HO c i s)(h:Ord gG 4 #[false,true,true,true,false,false,false] l):GA c Low i bm bi ba bw bf s 62 (qY ba bm bi bw T47 ops47 i₀ l ud (vI (i:Int)) (.pointer (some (ad ba 6))) (.string s) ud):=by
 obtain⟨j,f,k,rfl,e⟩:=dW h (rs:=[0, 4]) kR sI;simp only[aAx,aAC,or_false] at f;rcases f with rfl|rfl
 .exact XG I B (Dy I B g d a e)
 .exact ux (n:=61) I B oM d fun b N=>fN (zY I B _) (Ix I B g a N e) oM
theorem aNq(I:PL c)(B:Bx c Low bm bi ba bw bf)(f:i<c.n)(d:s.size<2147483648)(a:HO c i s)(h:Ord gG 5 #[false,false,true,true,false,false,false] l):GA c Low i bm bi ba bw bf s 64 (qY ba bm bi bw T47 ops47 i₀ l ud ud (.pointer (some (ad ba 6))) (.string s) ud):=by
 obtain⟨j,g,k,rfl,e⟩:=dW h (rs:=[0, 1, 4]) kR sI;simp only[aAx,aAC,or_false] at g;rcases g with rfl|rfl|rfl
 .exact XG I B (Iy I B f d a e)
 .exact XH I B (Iz I B f d a e)
 .exact ux (n:=63) I B oM d fun b N=>fN (zY I B _) (Np I B f a N e) oM
theorem Dz(I:PL c)(B:Bx c Low bm bi ba bw bf)(g:i<c.n)(b:s.size<2147483648)(a:HO c i s)(f:Ord gG 4 #[true,true,true,false,false,false,false] l):GA c Low i bm bi ba bw bf s 62 (qY ba bm bi bw T47 ops47 i₀ l (sl c.C c.n) (vI (i:Int)) (.pointer (some (ad ba 6))) ud ud):=by
 obtain⟨j,e,h,rfl,d⟩:=dW f (rs:=[3]) kR sI;simp only[aAx,aAC,or_false] at e;rcases e with rfl
 .exact uv I B (Dy I B g b a d)
theorem I0(I:PL c)(B:Bx c Low bm bi ba bw bf)(f:i<c.n)(b:s.size<2147483648)(a:HO c i s)(g:Ord gG 5 #[true,false,true,false,false,false,false] l):GA c Low i bm bi ba bw bf s 64 (qY ba bm bi bw T47 ops47 i₀ l (sl c.C c.n) ud (.pointer (some (ad ba 6))) ud ud):=by
 obtain⟨j,e,h,rfl,d⟩:=dW g (rs:=[1, 3]) kR sI;simp only[aAx,aAC,or_false] at e;rcases e with rfl|rfl
 .exact XH I B (Dz I B f b a d)
 .exact uv I B (Iy I B f b a d)
theorem I1(I:PL c)(B:Bx c Low bm bi ba bw bf)(f:i<c.n)(b:s.size<2147483648)(a:HO c i s)(g:Ord gG 5 #[false,true,true,false,false,false,false] l):GA c Low i bm bi ba bw bf s 64 (qY ba bm bi bw T47 ops47 i₀ l ud (vI (i:Int)) (.pointer (some (ad ba 6))) ud ud):=by
 obtain⟨j,e,h,rfl,d⟩:=dW g (rs:=[0, 3]) kR sI;simp only[aAx,aAC,or_false] at e;rcases e with rfl|rfl
 .exact XG I B (Dz I B f b a d)
 .exact uv I B (Iz I B f b a d)
theorem Nr(I:PL c)(B:Bx c Low bm bi ba bw bf)(e:i<c.n)(b:s.size<2147483648)(a:HO c i s)(g:Ord gG 6 #[false,false,true,false,false,false,false] l):GA c Low i bm bi ba bw bf s 66 (qY ba bm bi bw T47 ops47 i₀ l ud ud (.pointer (some (ad ba 6))) ud ud):=by
 obtain⟨j,f,h,rfl,d⟩:=dW g (rs:=[0, 1, 3]) kR sI;simp only[aAx,aAC,or_false] at f;rcases f with rfl|rfl|rfl
 .exact XG I B (I0 I B e b a d)
 .exact XH I B (I1 I B e b a d)
 .exact uv I B (aNq I B e b a d)
theorem I2(I:PL c)(B:Bx c Low bm bi ba bw bf)(g:i<c.n)(b:s.size<2147483648)(a:HO c i s)(f:Ord gG 5 #[true,true,false,false,false,false,false] l):GA c Low i bm bi ba bw bf s 64 (qY ba bm bi bw T47 ops47 i₀ l (sl c.C c.n) (vI (i:Int)) ud ud ud):=by
 obtain⟨j,e,h,rfl,d⟩:=dW f (rs:=[2]) kR sI;simp only[aAx,aAC,or_false] at e;rcases e with rfl
 .exact uw I B (Dz I B g b a d)
theorem Ns(I:PL c)(B:Bx c Low bm bi ba bw bf)(f:i<c.n)(b:s.size<2147483648)(a:HO c i s)(g:Ord gG 6 #[true,false,false,false,false,false,false] l):GA c Low i bm bi ba bw bf s 66 (qY ba bm bi bw T47 ops47 i₀ l (sl c.C c.n) ud ud ud ud):=by
 obtain⟨j,e,h,rfl,d⟩:=dW g (rs:=[1, 2]) kR sI;simp only[aAx,aAC,or_false] at e;rcases e with rfl|rfl
 .exact XH I B (I2 I B f b a d)
 .exact uw I B (I0 I B f b a d)
theorem Nt(I:PL c)(B:Bx c Low bm bi ba bw bf)(f:i<c.n)(b:s.size<2147483648)(a:HO c i s)(g:Ord gG 6 #[false,true,false,false,false,false,false] l):GA c Low i bm bi ba bw bf s 66 (qY ba bm bi bw T47 ops47 i₀ l ud (vI (i:Int)) ud ud ud):=by
 obtain⟨j,e,h,rfl,d⟩:=dW g (rs:=[0, 2]) kR sI;simp only[aAx,aAC,or_false] at e;rcases e with rfl|rfl
 .exact XG I B (I2 I B f b a d)
 .exact uw I B (I1 I B f b a d)
theorem Nu(I:PL c)(B:Bx c Low bm bi ba bw bf)(e:i<c.n)(b:s.size<2147483648)(a:HO c i s)(g:Ord gG 7 #[false,false,false,false,false,false,false] l):GA c Low i bm bi ba bw bf s 68 (qY ba bm bi bw T47 ops47 i₀ l ud ud ud ud ud):=by
 obtain⟨j,f,h,rfl,d⟩:=dW g (rs:=[0, 1, 2]) kR sI;simp only[aAx,aAC,or_false] at f;rcases f with rfl|rfl|rfl
 .exact XG I B (Ns I B e b a d)
 .exact XH I B (Nt I B e b a d)
 .exact uw I B (Nr I B e b a d)
end
end
section
section
variable {c:iF}(I:PL c){Low i bm bi ba bw bf b:Nat}(B:Bx c Low bm bi ba bw bf){s:Lp}{w:WR}
theorem follows:Tryz.prog.follows .mixedOrders=true:=kR
theorem XI(bw bf:Nat)(w:WR):stepG Tryz.prog false (born Tryz.prog (nJ 144 #[pt bw,pt bf])) w=.go (G ((baseD 144).at ⟨#[pt bw,pt bf,undef,undef,undef],[]⟩ [.code (Tryz.f144.body.getD .skip)]) [bot]) w #[]:=by simp[born,nJ,stepG,unwind,callDeferred,invoke,callFunc,func144,f144,seen,GStep.after,G,Frame.enter,Frame.at,baseD,bot]
theorem yr(w:WR)(f:FuncId)(x:Ff):(Instr.makeFunc (.func f) #[] x).events Tryz.prog w #[]=#[]:=by unfold Instr.makeFunc;simp[go_sem]
theorem jq:Tryz.f98.body=some (.region 0 gG true):=rfl
theorem PR:gG.size=7:=rfl
theorem I3(I:PL c)(B:Bx c Low bm bi ba bw bf)(m:i<c.n)(k:s.size<2147483648)(g:∀(w:WR) (b:Nat),w.heap[b]?=some (.cells (marks s s.size 0 (fI s.size)) 4)->w.cell? ⟨c.C,i,none⟩=some (sl b s.size)->c.Out i b w)(j:WK c i bm bi ba bw bf s w):Works c i Low (born c.P (nJ 144 #[pt bw,pt bf])) w:=by
 unfold Works;rw[I.P];refine⟨101,150+40+80*s.size+40,?_⟩;have E:=PQ (own:=fun _=>False) (s:=s) (i:=i) I B;have n:=yr;refine dU E (n:=100) rfl (fun w _=>XI bw bf w) ?_ w j;simp only[f144,aAK];repeat (first
  |refine bU E ?_
  |refine aP E ?_
  |refine bI E ?_
  | (refine GU E rfl rfl sQ2 rfl rfl ?_;walk_nrm)
  | (refine gF E rfl rfl sQ2 (fun w d=>(dF rfl rfl sizeOf1 isAgg1 (cell_of d.fv)).1) (fun w d=>xC (uU I B.f d.fv dC (dF rfl rfl sizeOf1 isAgg1 (cell_of d.fv)).2)) ?_;walk_nrm)
  | (refine bV E rfl rfl sQ2 (fun w d K j=>?_);go_simp;refine j _ sQ1 ?_;clear j K d w;try w_num))
 refine KU E rfl rfl sQ2 rfl rfl func98 Nl jq ?_
 walk_nrm
 rw[show f98.ntmps - 3=6 from rfl]
 walk_nrm
 refine fun o d=>Goes.step rfl fun h f=>?_;have a:=E.cl _ _ d f;rw[stepG_region_draw,follows];refine⟨⟨⟨h.drawn+1,rfl⟩,fun e l=>by simp at l⟩,?_⟩;exact fN E (Nu I B m k g (Dw PR rfl _)) oM _ ⟨a.mv,a.iv,a.av,a.wv,a.fv,a.live,a.pay⟩
end
end
section
structure Rw where
 b:Nat
 x:Array Value
 e:TypeId
 f:Nat×Nat
def HR(bs:List Rw)(w:WR):Prop:=∀q∈bs,w.heap[q.b]?=some (.cells q.x q.e q.f)
structure GR (c:iF)(bs:List Rw):Prop where
 wg:∀q∈bs,q.b≠c.Wg
 cc:∀q∈bs,q.b≠c.C
 ty:∀q∈bs,q.e≠4
 sh:∀q∈bs,∀a:Addr,a.block=q.b->¬c.Shun (.cell a)
structure F0 (c:iF)(Low:Nat)(bs:List Rw)(w:World):Prop where
 rows:HR bs w
 low:Low<=w.heap.size
 live:WgLive 189 c.Wg w
structure Lo (c:iF)(Low:Nat):Prop where
 wg:c.Wg<Low
 cc:c.C<Low
 ba:c.base<=Low
section
variable {c:iF}(I:PL c){Low:Nat}{bs:List Rw}{w w₁:WR}
theorem HR.tail{q:Rw}(h:HR (q::bs) w):HR bs w:=fun p a=>h p (aAR _ a)
theorem HR.head{q:Rw}(h:HR (q::bs) w):w.heap[q.b]?=some (.cells q.x q.e q.f):=h q aAQ
theorem F0.rely(I:PL c)(g:GR c bs)(h:F0 c Low bs w)(r:R0 c w w₁):F0 c Low bs w₁:=
 ⟨fun q a=>(r.eT q.b (lt_of_heap (h.rows q a)) (g.wg q a) (g.cc q a) (KV I (h.rows q a) (g.ty q a))).tr (h.rows q a),aAw h.low r.size,by have:=r.live;rw[I.ty] at this;exact this h.live⟩
theorem D3(w:WR):D0 c Low w w #[]:=⟨aAz _,fun _ _ _=>rfl,(fun e a=>by simp at a),id,rfl,rfl⟩
theorem GX(I:PL c)(g:GR c bs):Env (R0 c) (D0 c Low) (F0 c Low bs):=⟨fun _ _ h r=>h.rely I g r,fun w=>D3 w⟩
theorem GR.cons(I:PL c)(g:GR c bs)(L:Lo c Low){q:Rw}(n:Low<=q.b)(f:q.e≠4):GR c (q::bs):=by
 have i:∀a:Addr,a.block=q.b->¬c.Shun (.cell a):=fun a j h=>by have⟨l,e,d⟩:=I.Nj.Dg _ h;cases e;have:=L.ba;omega
 have m:=L.wg;have k:=L.cc;refine⟨fun p b=>?_,fun p b=>?_,fun p b=>?_,fun p b=>?_⟩<;>rcases aAx.1 b with rfl|b
 .omega
 .exact g.wg p b
 .omega
 .exact g.cc p b
 .exact f
 .exact g.ty p b
 .exact i
 .exact g.sh p b
theorem LB(I:PL c)(g:GR c bs){q:Rw}(a:q∈bs)(h:HR bs w){d:aA}(b:∀e∈d,∃k,e=⟨.cell ⟨q.b,k,none⟩,false,false⟩):D0 c Low w w d:=
 ⟨aAz _,fun _ _ _=>rfl,fun e f=>by obtain⟨k,rfl⟩:=b e f;exact .inl ⟨⟨q.b,k,none⟩,false,rfl,g.wg q a,g.cc q a,KV I (h q a) (g.ty q a),g.sh q a _ rfl,(fun h=>by cases h),lt_of_heap (h q a)⟩,id,rfl,rfl⟩
theorem GY(I:PL c)(g:GR c bs){fr:Frame}{a:Act}{k:List Item}{x:eX}{d:DQ}{j:Nat}{l:K4}{o:Oper}{n:Nat}{i:WM}{z:Ff}{t:Fh}(f:d[j]?=some o)(E:Region.wanted o (yielded d a.tmps)=true)(D:fr.kind≠.early)(A:∀w,(execOp a.eval o).run Tryz.prog w=.ok (.value (pt w.heap.size)) (w.alloc (.cells z t))/\(execOp a.eval o).events Tryz.prog w #[]=#[])(h:∀b,Low<=b->(∀q∈bs,q.b≠b)->cO Tryz.prog true (R0 c) (D0 c Low) i (F0 c Low (⟨b,z,t,(0,0)⟩::bs)) n (G (fr.at (a.put o.dst (pt b)) (.inRegion d l::k)) x)):cO Tryz.prog true (R0 c) (D0 c Low) i (F0 c Low bs) (n+1) (G (fr.at a (.inRegion d (j::l)::k)) x):=
 fun _ v=>Goes.step rfl fun w₁ r=>by
  have u:=(GX (Low:=Low) I g).cl _ _ v r;rw[stepG_value f E D (A w₁).1];have y:∀b p,w₁.heap[b]?=some p->(w₁.nc z t).heap[b]?=some p:=fun b p m=>by have:=lt_of_heap m;show(w₁.heap.push (.ce z t))[b]?=_;rw[aBF this,<-m,aAN this]
  refine⟨⟨by show _<=(w₁.heap.push _).size;simp,fun b m _=>?_,fun e H=>?_,fun B b p m f=>?_,rfl,rfl⟩,h w₁.heap.size u.low (fun q s=>?_) _ ⟨fun q s=>?_,?_,?_⟩⟩
  .show(w₁.heap.push (.ce z t))[b]?=_;rw[aBF m,aAN m]
  .have:=mem_listed H;rw[(A w₁).2] at this;simp at this
  .replace f:(w₁.heap.push (.ce z t))[b]?=some p:=f;rw[aAV] at f;split at f
   .cases f;exact⟨_,_,rfl⟩
   .exact B b p m f
  .have:=lt_of_heap (u.rows q s);omega
  .rcases aAx.1 s with rfl|s
   .show(w₁.heap.push (.ce z t))[w₁.heap.size]?=_;rw[aAT]
   .exact y _ _ (u.rows q s)
  .show _<=(w₁.heap.push (.ce z t)).size;have:=u.low;simp;omega
  .have⟨F,C,e⟩:=u.live;exact⟨F,C,y _ _ e⟩
theorem LC(I:PL c)(L:Lo c Low)(g:GR c bs){fr:Frame}{a:Act}{k:List Item}{E:eX}{i:DQ}{j:Nat}{p:K4}{o:Oper}{n:Nat}{m:WM}{b:Nat}{x y:Ff}{t:Fh}(s:i[j]?=some o)(N:Region.wanted o (yielded i a.tmps)=true)(K:fr.kind≠.early)(D:Low<=b)(B:∀q∈bs,q.b≠b)(u:t≠4)(P:∀w:WR,w.heap[b]?=some (.ce x t)->∃f,(execOp a.eval o).run prog w=.ok .skip f/\(∀e∈(execOp a.eval o).events prog w #[],∃k,e=⟨.cell ⟨b,k,none⟩,true,false⟩)/\f.heap[b]?=some (.ce y t)/\(∀d,d≠b->f.heap[d]?=w.heap[d]?)/\f.heap.size=w.heap.size/\f.os=w.os/\f.output=w.output)(h:cO prog true (R0 c) (D0 c Low) m (F0 c Low (⟨b,y,t,(0,0)⟩::bs)) n (G (fr.at (a.put o.dst ud) (.inRegion i p::k)) E)):cO prog true (R0 c) (D0 c Low) m (F0 c Low (⟨b,x,t,(0,0)⟩::bs)) (n+1) (G (fr.at a (.inRegion i (j::p)::k)) E):=
 have z:GR c (⟨b,x,t,(0,0)⟩::bs):=g.cons I L D u
 KX (GX I z) s N K (fun w r=>by
  have⟨f,M,H,h3,h4,F,S⟩:=P w r.rows.head;have l:∀d,d≠b->f.heap[d]?=w.heap[d]?:=h4;refine⟨f,M,⟨aBz F.symm,fun d _ v=>l d ?_,fun e T=>?_,fun u d Q C s=>?_,S⟩,⟨fun q A=>?_,by rw[F];exact r.low,?_⟩⟩
  .rintro rfl;rcases v with h|h
   .omega
   .exact KV I r.rows.head u h
  .obtain⟨k,rfl⟩:=H e (mem_listed T);have O:=z.sh _ aAQ;exact .inl ⟨⟨b,k,none⟩,true,rfl,z.wg _ aAQ,z.cc _ aAQ,KV I r.rows.head u,O _ rfl,fun _=>D,lt_of_heap r.rows.head⟩
  .by_cases e:d=b
   .subst e;rw[h3] at s;cases s;exact⟨_,_,rfl⟩
   .rw[l d e] at s;exact u d Q C s
  .rcases aAx.1 A with rfl|A
   .exact h3
   .exact(l _ (B q A)).tr (r.rows.tail q A)
  .have⟨R,J,e⟩:=r.live;exact⟨R,J,(l _ (Ne.symm (z.wg _ aAQ))).tr e⟩) h
theorem pM{o:Oper}{ev:Operand->Value}{t:TypeId}{z:Value}(b:o.op=.alloc t)(d:∀w,Sem.run prog (zeroValue t) w=.ok z w)(a:∀w c,(zeroValue t).events prog w c=c)(w:World):
  (execOp ev o).run prog w=.ok (.value (pt w.heap.size)) (w.alloc (.ce z.cells t))/\(execOp ev o).events prog w #[]=#[]:=by
 unfold execOp;simp only[b,Instr.alloc];constructor
 .simp[d,newVar,newRow]
 .simp[d,a,newVar,newRow]
theorem SE{o:Oper}{a:Operand->vZ}{t:Fh}{x:Operand}{v:vZ}(b:o.op=.box t x)(c:a x=v)(w:WR):
  (execOp a o).run Tryz.prog w=.ok (.value (pt w.heap.size)) (w.alloc (.cells v.cells t))/\(execOp a o).events Tryz.prog w #[]=#[]:=by
 unfold execOp;simp only[b,c,Instr.box];constructor
 .simp[newVar,newRow]
 .simp[newVar,newRow]
theorem xD(t:Fh){i:TypeInfo}{z:vZ}(b:Tryz.prog.info? t=some i)(c:i.zero=some z)(w:WR)(a:aA):(zeroValue t).events Tryz.prog w a=a:=by simp[zeroValue,typeInfo,b,c]
end
theorem zZ(b off j:Nat):(⟨b,off,none⟩:Addr).add j=⟨b,off+j,none⟩:=by
 unfold Addr.add;split
 .rename_i h;simp_all
 .rfl
def el(X:Ff)(off:Nat):Ff:=((List.range 8).map fun j=>X.getD (off+j) undef).toArray
theorem uy(X:Ff)(off:Nat):(el X off).size=8:=by simp[el]
theorem I4(X:Ff)(off j:Nat)(a:j<8)(h:off+j<X.size):(el X off)[j]?=X[off+j]?:=by simp[el,a,h]
theorem LD{P:K5}(a:Addr):∀(n i:Nat) (b:Ff) (w:WR) (c:aA),(∀j,j<n->∃v,w.cell? (a.add (i+j))=some v)->
  ∀d∈(loadCellsFrom a i n b).events P w c,d∈c\/∃j,d=⟨.cell (a.add j),false,false⟩
 |0,_,_,_,_,_=>fun d h=>.inl (by simpa[loadCellsFrom] using h)
 |n+1,i,b,w,c,f=>fun d h=>by
  have⟨u,e⟩:=f 0 oM;rw[aBd] at e;have g:(load (a.add i)).run P w=.ok u w:=by simp[e]
  have k:(load (a.add i)).events P w c=c.push ⟨.cell (a.add i),false,false⟩:=by show(Sem.runT P (.load .plain (a.add i) .pure) w c).2=_;simp only[Sem.runT,e];rfl
  simp only[loadCellsFrom,Sem.events_bind,g,k] at h;rcases LD a n (i+1) (b.push u) w _ (fun j l=>by have:=f (j+1) oM;rwa[show i+(j+1)=i+1+j by omega] at this) d h with h|h
  .rcases aDl.1 h with h|rfl
   .exact .inl h
   .exact .inr ⟨i,rfl⟩
  .exact .inr h
theorem EA{P:K5}(g:Nat)(t:Fh):∀(n:K3) (i:Nat) (a:Ff) (w:WR) (o:aA),w.heap[g]?=some (.cells a t (0,0))->i+n.length<=a.size->(∀v∈n,v.oneCell'=true)->
  ∀b∈(storeCells ⟨g,0,none⟩ n i).events P w o,b∈o\/∃k,b=⟨.cell ⟨g,k,none⟩,true,false⟩
 | [],_,_,_,_,_,_,_=>fun b h=>.inl (by simpa[storeCells] using h)
 |v::c,i,a,w,o,d,q,p=>fun b h=>by
  have f:i<a.size:=by simp at q;omega
  have s:=p v aAQ;have j:∀z,v≠.agg z:=by rintro z rfl;simp[Value.oneCell'] at s
  have m:∀z,v≠.tuple z:=by rintro z rfl;simp[Value.oneCell'] at s
  have e:(⟨g,0,none⟩:Addr).add i=⟨g,i,none⟩:=by rw[zZ,aAM]
  have r:=mK (P:=P) (ad:=⟨g,i,none⟩) (w:=w) (u:=a[i]) j m (by simp[World.cell?,d,f]) (by simp[World.frozen?,d]);simp only[storeCells,Sem.events_bind,e,r.1,r.2] at h;have l:(w.setCell ⟨g,i,none⟩ v).heap[g]?=some (.cells (a.setIfInBounds i v) t (0,0)):=by rw[setCell_eq_setRow w g i a _ (0,0) _ d,setRow_heap w g _ _ _ _ d]
  rcases EA g t c (i+1) _ _ _ l (by simp at q⊢;omega) (fun x u=>p x (aAR _ u)) b h with h|h
  .rcases aDl.1 h with h|rfl
   .exact .inl h
   .exact .inr ⟨i,rfl⟩
  .exact .inr h
theorem SF:Tryz.prog.info? 52=some Tryz.t52:=kR
theorem I5:Tryz.prog.info? 3=some Tryz.t3:=kR
theorem LI{o:Oper}{c:Operand->vZ}{x:Operand}{b off:Nat}{X:Ff}{t:Fh}{f:Nat×Nat}{w:WR}(a:o.op=.load 52 x)(n:c x=.pointer (some ⟨b,off,none⟩))(m:w.heap[b]?=some (.cells X t f))(q:off+8<=X.size):
  (execOp c o).run Tryz.prog w=.ok (.value (.agg (el X off))) w/\∀e∈(execOp c o).events Tryz.prog w #[],∃k,e=⟨.cell ⟨b,k,none⟩,false,false⟩:=by
 have l:∀j,j<8->w.cell? ((⟨b,off,none⟩:Addr).add j)=some (X.getD (off+j) ud):=fun j i=>by rw[zZ];simp[World.cell?,m,show off+j<X.size by omega]
 have g:=run_loadCells (P:=prog) w ⟨b,off,none⟩ 8 _ l;unfold execOp;simp only[a,n,Instr.loadAt,Instr.sureAddr,loadVar];constructor
 .simp[isAgg52,sizeOf52,g,el]
 .intro e p;have d:e∈(loadCells ⟨b,off,none⟩ 8).events prog w #[]:=by simpa[isAgg52,sizeOf52,g,go_sem] using p
  rcases LD (P:=prog) ⟨b,off,none⟩ 8 0 #[] w #[] (fun j i=>⟨_,by rw[aAM];exact l j i⟩) e d with h| ⟨j,rfl⟩
  .simp at h
  .exact⟨off+j,by rw[zZ]⟩
end
end
end Go.Mark
