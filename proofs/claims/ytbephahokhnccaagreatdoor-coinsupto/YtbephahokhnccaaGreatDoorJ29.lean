import Derived.Test.YtbephahokhnccaaGreatDoorJ28
set_option linter.all false
set_option maxRecDepth 100000
set_option maxHeartbeats 8000000
namespace Go
theorem sQ2 {p:Prop} (h:p:=by k_ne):p:=h
end Go
namespace Go.Phase
section
open Go.Conc Go.Walk Go.RowKit Go.Conc.Lib Go.ConcR.Gen Go.ConcN.Gen
open Go.ConcN (WgLive)
open Go.ConcR (KK WgAt stA smA rd wr mk Payload)
section
variable [Payload] {L:WgLink}
def Nv{c:iF}(H:WgLib c.P L){a i:Nat}{Next:WM}{X:K6}(t:∀w j,X w->R0 c w j->X j){n:Frame}{m:Act}{d:DQ}{k:Nat}{e:K4}{l:List Item}{A:eX}{mT:Nat}(x:∀w,X w->WgLive c.ty c.Wg w->Goes c.P true (R0 c) (D0 c a) (AtGo c i Next) mT (G (n.at (m.put ((d[k]?).bind (·.dst)) (.tuple #[])) (.inRegion d e::l)) A) w):
  cO c.P true (R0 c) (D0 c a) (AtKdS c a i Next) (fun w=>X w/\WgLive c.ty c.Wg w) 40
   (G ((base L.add).at ⟨#[.pointer (some (ad c.Wg 0)),vI 1]++Array.replicate 115 ud,[]⟩ [.code (body_add L)]) (n.at m (.inRegion d (k::e)::l)::A)):=by
 lib_facts
 have E:=Iq c a t;simp only[body_add,addFn,aAK]
 walk_nrm
 repeat (first
  |refine bU E ?_
  |refine cX E ?_
  |refine aP E ?_
  |refine bD E ?_
  |refine bI E ?_
  |refine cC E ?_
  |refine cE E ?_
  |refine cF E ?_
  |refine bL E ?_
  |refine eQ E ?_
  |refine gW E ?_
  |refine jK E ?_
  |refine bM E rfl ?_
  |refine bZ E rfl ?_
  | (refine cH E rfl rfl ?_;walk_nrm)
  |refine eI E ?_
  | (refine xB E (.bool false) rfl rfl sQ2 rfl H.f_inBubble (x_inBubble_n L) (x_inBubble_b L) (x_inBubble_x L) (x_inBubble_f L) ?_;walk_nrm)
  | (refine bV E rfl rfl sQ2 (fun w b K f=>?_);go_simp;refine f _ sQ1 ?_;clear f K b w;try w_num))
 refine cD E fun w b=>?_;refine⟨rfl,_,stepG_mark0 .disable sI rfl rfl sQ2 rfl H.f_disable (x_disable_n L) (x_disable_b L) (x_disable_x L) (x_disable_f L),60,?_⟩;revert w;show cO c.P true (R0 c) (D0 c a) (AtA1 c a i Next) (fun w=>X w/\WgLive c.ty c.Wg w) 60 _
 walk_nrm
 repeat (first
  |refine bU E ?_
  |refine cX E ?_
  |refine aP E ?_
  |refine bD E ?_
  |refine bI E ?_
  |refine cC E ?_
  |refine cE E ?_
  |refine cF E ?_
  |refine bL E ?_
  |refine eQ E ?_
  |refine gW E ?_
  |refine jK E ?_
  |refine bM E rfl ?_
  |refine bZ E rfl ?_
  | (refine cH E rfl rfl ?_;walk_nrm)
  |refine eI E ?_
  | (refine eY E rfl rfl sQ2 rfl H.f_uAdd (nm_uAdd L) rfl ?_;walk_nrmf uAddFn)
  | (refine xB E (.bool false) rfl rfl sQ2 rfl H.f_inBubble (x_inBubble_n L) (x_inBubble_b L) (x_inBubble_x L) (x_inBubble_f L) ?_;walk_nrm)
  | (refine ji E rfl rfl sQ2 rfl ?_;walk_nrm)
  | (refine bV E rfl rfl sQ2 (fun w b K f=>?_);go_simp;refine f _ sQ1 ?_;clear f K b w;try w_num))
 refine cD E fun w b=>⟨rfl,fun v D h=>?_⟩;have g:∀y:Int,X (w.setCell (stA c.Wg) (vU y))/\WgLive c.ty c.Wg (w.setCell (stA c.Wg) (vU y)):=fun y=>
  have B:WgLive c.ty c.Wg (w.setCell (stA c.Wg) (vU y)):=⟨_,_,h.setSt y⟩
  ⟨t _ _ b.1 (zW (aside_setCell w (stA c.Wg) _) B),B⟩
 rcases aDa v with rfl|F
 ·replace h:WgAt c.ty c.Wg w 0 0:=by simpa using h
  have z:(((0:Nat):Int)+1)*KK=KK:=sI
  rw[z];have s:IntKind.u64.wrap (0+4294967296)=KK:=dC
  refine⟨_,(stepG_add_atomic rfl rfl sQ2 rfl H.f_addU64 (x_addU64_n L) (x_addU64_b L) (x_addU64_x L) .u64 (x_addU64_f L) rfl rfl h.cellSt (h.thaw 0)).tr (by rw[s];rfl),150,?_⟩;have o:=g KK;generalize w.setCell (stA c.Wg) (.int .u64 KK)=r at o⊢;clear h b g D s z w;revert r;show cO c.P true (R0 c) (D0 c a) (AtKeS c a i Next) (fun w=>X w/\WgLive c.ty c.Wg w) 150 _;simp only[KK]
  walk_nrm
  repeat (first
   |refine bU E ?_
   |refine cX E ?_
   |refine aP E ?_
   |refine bD E ?_
   |refine bI E ?_
   |refine cC E ?_
   |refine cE E ?_
   |refine cF E ?_
   |refine bL E ?_
   |refine eQ E ?_
   |refine gW E ?_
   |refine jK E ?_
   |refine bM E rfl ?_
   |refine bZ E rfl ?_
   | (refine cH E rfl rfl ?_;walk_nrm)
   |refine eI E ?_
   | (refine eP E rfl rfl H.f_uAdd rfl ?_;walk_nrm)
   | (refine xB E (.bool false) rfl rfl sQ2 rfl H.f_inBubble (x_inBubble_n L) (x_inBubble_b L) (x_inBubble_x L) (x_inBubble_f L) ?_;walk_nrm)
   | (refine pL E rfl rfl sQ2 rfl rfl H.underlying_tPU32 H.underlying_tUP H.room_tU32 (fun w b=>yp b.2) ?_;walk_nrm)
   | (refine yo E rfl (fun w _=>stepG_markAt .read sI rfl rfl sQ2 rfl H.f_raceRead (x_raceRead_n L) (x_raceRead_b L) (x_raceRead_x L) (x_raceRead_f L) (ad:=⟨c.Wg,1,none⟩) (by simp[Act.eval])) (fun w _=>uo c a w _ rfl) ?_;walk_nrm)
   | (refine bV E rfl rfl sQ2 (fun w b K f=>?_);go_simp;refine f _ sQ1 ?_;clear f K b w;try w_num))
  refine cD E fun w b=>?_;refine⟨rfl,_,stepG_unwind_entry (v:=.tuple #[]) (evs:=#[mk .enable]) rfl H.f_enable (x_enable_n L) (x_enable_b L) (x_enable_x L) (x_enable_f L) (by simp[Extern.Race.none_]) (by simp[mk]) (by simp[mk]),mT+1,?_⟩;revert w;show cO c.P true (R0 c) (D0 c a) (AtGo c i Next) (fun w=>X w/\WgLive c.ty c.Wg w) (mT+1) _;refine jO E rfl rfl H.f_add rfl ?_;exact fun w b=>x w b.1 b.2
 ·obtain⟨V,q⟩:∃V:Int,V=(v:Int)+1:=⟨_,rfl⟩
  obtain⟨S,p⟩:∃S:Int,S=V*KK:=⟨_,rfl⟩;have u:IntKind.u64.wrap ((v:Int)*KK+4294967296)=S:=by rw[IntKind.wrap_u64,p,q];simp only[KK];omega
  rw[<-q,<-p];have T:S / 4294967296=V:=by rw[p];simp only[KK];omega
  have J:bits .and .u64 S 2147483648=0:=by rw[p,q];have:=Go.ConcN.st_flag (v+1) 0 oM oM;simpa[KK] using this
  have R:bits .and .u64 S 2147483647=0:=by rw[p,q];have:=Go.ConcN.st_waiters (v+1) 0 oM oM;simpa[KK] using this
  have P:IntKind.i32.wrap V=V:=by rw[IntKind.wrap_i32];omega
  have C:1<V:=oM
  have I:V<2147483648:=oM
  have N:(V==1)=false:=by simp;omega
  have U:decide (V=1)=false:=decide_eq_false oM;have O:decide (V<0)=false:=decide_eq_false oM;have q4:decide (0<V)=true:=decide_eq_true oM;have Q:(V==0)=false:=by simp;omega
  have M:decide (V=0)=false:=decide_eq_false oM;refine⟨_,(stepG_add_atomic rfl rfl sQ2 rfl H.f_addU64 (x_addU64_n L) (x_addU64_b L) (x_addU64_x L) .u64 (x_addU64_f L) rfl rfl h.cellSt (h.thaw 0)).tr (by rw[u];rfl),150,?_⟩;have o:=g S;generalize w.setCell (stA c.Wg) (.int .u64 S)=r at o⊢;clear h b g p q u w;revert r;show cO c.P true (R0 c) (D0 c a) (AtKeS c a i Next) (fun w=>X w/\WgLive c.ty c.Wg w) 150 _
  walk_nrm
  repeat (first
   |refine bU E ?_
   |refine cX E ?_
   |refine aP E ?_
   |refine bD E ?_
   |refine bI E ?_
   |refine cC E ?_
   |refine cE E ?_
   |refine cF E ?_
   |refine bL E ?_
   |refine eQ E ?_
   |refine gW E ?_
   |refine jK E ?_
   |refine bM E rfl ?_
   |refine bZ E rfl ?_
   | (refine cH E rfl rfl ?_;walk_nrm)
   |refine eI E ?_
   |refine bM E sQ4 ?_
   |refine bZ E sQ4 ?_
   | (refine eP E rfl rfl H.f_uAdd rfl ?_;walk_nrm)
   | (refine xB E (.bool false) rfl rfl sQ2 rfl H.f_inBubble (x_inBubble_n L) (x_inBubble_b L) (x_inBubble_x L) (x_inBubble_f L) ?_;walk_nrm)
   | (refine bV E rfl rfl sQ2 (fun w b K f=>?_);go_simp;refine f _ sQ1 ?_;clear f K b w;try w_num))
  refine cD E fun w b=>?_;refine⟨rfl,_,stepG_unwind_entry (v:=.tuple #[]) (evs:=#[mk .enable]) rfl H.f_enable (x_enable_n L) (x_enable_b L) (x_enable_x L) (x_enable_f L) (by simp[Extern.Race.none_]) (by simp[mk]) (by simp[mk]),mT+1,?_⟩;revert w;show cO c.P true (R0 c) (D0 c a) (AtGo c i Next) (fun w=>X w/\WgLive c.ty c.Wg w) (mT+1) _;refine jO E rfl rfl H.f_add rfl ?_;exact fun w b=>x w b.1 b.2
end
end
section
open Go.Conc Go.Walk Go.RowKit Go.Conc.Lib Go.ConcR.Gen Go.ConcN.Gen Go.Lift
open Go.ConcN (WgLive)
open Go.ConcR (KK WgAt stA smA rd wr mk Payload)
section
variable [Payload] {L:WgLink}
def I7{c:iF}(H:WgLib c.P L){b:Nat}{X:K6}(q:∀w k,X w->R0 c w k->X k){b₀:Frame}{a₀:Act}{ops0:DQ}{i₀:Nat}{rest0:K4}{k₀:List Item}{cs:eX}(s:c.ty=L.tWg)(o:∀g w,AnchWN L X c.Wg (b₀.at a₀ (.inRegion ops0 (i₀::rest0)::k₀)) cs g w->c.Anch b g w)(i:∀g w,X w->WgLive c.ty c.Wg w->Goes c.P true AtRel qT (fun M _=>M=G (b₀.at (a₀.put ((ops0[i₀]?).bind (·.dst)) (.tuple #[])) (.inRegion ops0 rest0::k₀)) cs) 40 g w->c.Then g w)(g:K2)(w:WR)(h:AnchWN L X c.Wg (b₀.at a₀ (.inRegion ops0 (i₀::rest0)::k₀)) cs g w):
  ∃m,Goes c.P true (R0 c) (D0 c b) (AtW1 c b) m g w:=by
 lib_facts
 have E:=Iq c b q;obtain⟨T,rfl,j,y,r⟩:=h;rw[<-s] at r;obtain⟨v0,v1,v2,v3,v4,v5,v6,v7,v8,v9,v10,v11,bs,A,bi,D,P,al,cb,a7,v20,B,c7,ck,O,bz,bn,a3,c5,a9,v30,b8,z,ca,Z,R,cd,c9,bm,Y,V,W,bw,a5,b6,U,F,bv,bh,bl,b5,br,b4,aa,I,bd,bo,bc,a4,c6,a2,cc,b0,bb,bf,C,N,Q,bj,bg,c0,b7,bx,ch,a6,b3,cl,a8,J,b9,bt,ad,ac,a0,rfl⟩:=array84 T j;simp only[aAY,aAP,aAF] at y;subst y;clear j;refine⟨60,?_⟩;revert r;generalize w=w;revert w;show cO c.P true (R0 c) (D0 c b) (AtW1 c b) (fun w=>X w/\WgLive c.ty c.Wg w) 60 _;simp only[L7,body_wait,waitFn,aAK];repeat (first
  |refine bU E ?_
  |refine cX E ?_
  |refine aP E ?_
  |refine bD E ?_
  |refine bI E ?_
  |refine cY E ?_
  |refine cC E ?_
  |refine cE E ?_
  |refine cF E ?_
  |refine bL E ?_
  |refine dO E ?_
  |refine bM E rfl ?_
  |refine bZ E rfl ?_
  | (refine cH E rfl rfl ?_;walk_nrm)
  |refine cU E ?_
  |refine cP E ?_
  |refine cJ E ?_
  |refine eI E ?_
  | (refine eY E rfl rfl sQ2 rfl H.f_uLoad (nm_uLoad L) rfl ?_;walk_nrmf uLoadFn)
  | (refine bV E rfl rfl sQ2 (fun w a K d=>?_);go_simp;refine d _ sQ1 ?_;clear d K a w;try w_num))
 refine cD E fun w a=>⟨rfl,fun v hv f=>?_⟩;rcases aDa v with rfl|ar
 ·replace f:WgAt c.ty c.Wg w 0 0:=by simpa using f
  refine⟨_,stepG_load_atomic (v:=0) rfl rfl sQ2 rfl H.f_loadU64 (x_loadU64_n L) (x_loadU64_b L) (x_loadU64_x L) .u64 (x_loadU64_f L) rfl f.cellSt,fun _=>⟨80,?_⟩,fun h=>absurd rfl h⟩;clear f hv;revert w;show cO c.P true (R0 c) (D0 c b) (AtKe c b) (fun w=>X w/\WgLive c.ty c.Wg w) 80 _
  walk_nrm
  repeat (first
   |refine bU E ?_
   |refine cX E ?_
   |refine aP E ?_
   |refine bD E ?_
   |refine bI E ?_
   |refine cY E ?_
   |refine cC E ?_
   |refine cE E ?_
   |refine cF E ?_
   |refine bL E ?_
   |refine dO E ?_
   |refine bM E rfl ?_
   |refine bZ E rfl ?_
   | (refine cH E rfl rfl ?_;walk_nrm)
   |refine cU E ?_
   |refine cP E ?_
   |refine cJ E ?_
   |refine eI E ?_
   | (refine eP E rfl rfl H.f_uLoad rfl ?_;walk_nrm)
   | (refine bV E rfl rfl sQ2 (fun w a K d=>?_);go_simp;refine d _ sQ1 ?_;clear d K a w;try w_num))
  refine cD E fun w a=>?_;refine⟨rfl,_,stepG_mark0 .enable sI rfl rfl sQ2 rfl H.f_enable (x_enable_n L) (x_enable_b L) (x_enable_x L) (x_enable_f L),30,?_⟩;revert w;show cO c.P true (R0 c) (D0 c b) (AtAcq c) (fun w=>X w/\WgLive c.ty c.Wg w) 30 _
  walk_nrm
  repeat (first
   |refine bU E ?_
   |refine cX E ?_
   |refine aP E ?_
   |refine bD E ?_
   |refine bI E ?_
   |refine cY E ?_
   |refine cC E ?_
   |refine cE E ?_
   |refine cF E ?_
   |refine bL E ?_
   |refine dO E ?_
   |refine bM E rfl ?_
   |refine bZ E rfl ?_
   | (refine cH E rfl rfl ?_;walk_nrm)
   |refine cU E ?_
   |refine cP E ?_
   |refine cJ E ?_
   |refine eI E ?_
   | (refine pL E rfl rfl sQ2 rfl rfl H.underlying_tWgP H.underlying_tUP H.room_tWg (fun w a=>SB a.2) ?_;walk_nrm)
   | (refine bV E rfl rfl sQ2 (fun w a K d=>?_);go_simp;refine d _ sQ1 ?_;clear d K a w;try w_num))
  refine cD E fun w a=>?_;refine⟨rfl,_,stepG_markAt .acquire sI rfl rfl sQ2 rfl H.f_acquire (x_acquire_n L) (x_acquire_b L) (x_acquire_x L) (x_acquire_f L) (by simp[Act.eval,stA]),i _ _ a.1 a.2 ?_⟩;revert w;show cO c.P true AtRel qT _ (fun w=>X w/\WgLive c.ty c.Wg w) 40 _;replace E:=Is c q
  walk_nrm
  repeat (first
   |refine bU E ?_
   |refine cX E ?_
   |refine aP E ?_
   |refine bD E ?_
   |refine bI E ?_
   |refine cY E ?_
   |refine cC E ?_
   |refine cE E ?_
   |refine cF E ?_
   |refine bL E ?_
   |refine dO E ?_
   |refine bM E rfl ?_
   |refine bZ E rfl ?_
   | (refine cH E rfl rfl ?_;walk_nrm)
   |refine cU E ?_
   |refine cP E ?_
   |refine cJ E ?_
   |refine eI E ?_
   | (refine bV E rfl rfl sQ2 (fun w a K d=>?_);go_simp;refine d _ sQ1 ?_;clear d K a w;try w_num))
  refine jO E rfl rfl H.f_wait rfl ?_;exact cD E fun w _=>rfl
 ·obtain⟨S,p⟩:∃S:Int,(v:Int)*KK=S:=⟨_,rfl⟩
  have a1:S / 4294967296=(v:Int):=by rw[<-p];simp only[KK];omega
  have b1:bits .and .u64 S 2147483648=0:=by rw[<-p];have:=Go.ConcN.st_flag v 0 oM oM;simpa[KK] using this
  have b2:bits .and .u64 S 2147483647=0:=by rw[<-p];have:=Go.ConcN.st_waiters v 0 oM oM;simpa[KK] using this
  have c1:IntKind.i32.wrap (v:Int)=(v:Int):=by rw[IntKind.wrap_i32];omega
  have w1:IntKind.u64.wrap (S+1)=S+1:=by rw[IntKind.wrap_u64,<-p];simp only[KK];omega
  have q3:decide ((v:Int)<0)=false:=decide_eq_false oM;have q4:decide (0<(v:Int))=true:=decide_eq_true oM;have q5:((v:Int)==0)=false:=by simp;omega
  have q6:decide ((v:Int)=0)=false:=decide_eq_false oM;rw[p] at f;refine⟨_,stepG_load_atomic (v:=S) rfl rfl sQ2 rfl H.f_loadU64 (x_loadU64_n L) (x_loadU64_b L) (x_loadU64_x L) .u64 (x_loadU64_f L) rfl f.cellSt,fun h0=>absurd h0 oM,fun _=>⟨90,?_⟩⟩;clear f;revert w;show cO c.P true (R0 c) (D0 c b) (AtW2 c b v) (fun w=>X w/\WgLive c.ty c.Wg w) 90 _
  walk_nrm
  repeat (first
   |refine bU E ?_
   |refine cX E ?_
   |refine aP E ?_
   |refine bD E ?_
   |refine bI E ?_
   |refine cY E ?_
   |refine cC E ?_
   |refine cE E ?_
   |refine cF E ?_
   |refine bL E ?_
   |refine dO E ?_
   |refine bM E rfl ?_
   |refine bZ E rfl ?_
   | (refine cH E rfl rfl ?_;walk_nrm)
   |refine cU E ?_
   |refine cP E ?_
   |refine cJ E ?_
   |refine eI E ?_
   |refine bM E sQ4 ?_
   |refine bZ E sQ4 ?_
   | (refine eY E rfl rfl sQ2 rfl H.f_uCas (nm_uCas L) rfl ?_;walk_nrmf uCasFn)
   | (refine eP E rfl rfl H.f_uLoad rfl ?_;walk_nrm)
   | (refine bV E rfl rfl sQ2 (fun w a K d=>?_);go_simp;refine d _ sQ1 ?_;clear d K a w;try w_num))
  refine cD E fun w a=>⟨rfl,fun v' x f=>⟨fun e=>?_,fun e=>?_⟩⟩
  ·subst e
   rw[p] at f⊢;refine⟨_,(stepG_cas_hit (v:=S) (n:=S+1) rfl rfl sQ2 rfl H.f_casU64 (x_casU64_n L) (x_casU64_b L) (x_casU64_x L) .u64 (x_casU64_f L) rfl rfl rfl f.cellSt (f.thaw 0)).tr rI,90,?_⟩;have n:WgLive c.ty c.Wg (w.setCell (stA c.Wg) (vU (S+1))):=⟨_,_,f.setSt _⟩;have l:X (w.setCell (stA c.Wg) (vU (S+1)))/\WgLive c.ty c.Wg (w.setCell (stA c.Wg) (vU (S+1))):=⟨q _ _ a.1 (zW (aside_setCell w (stA c.Wg) _) n),n⟩;generalize w.setCell (stA c.Wg) (.int .u64 (S+1))=u at l⊢;clear f a n w;revert u;show cO c.P true (R0 c) (D0 c b) (AtW3 c b) (fun w=>X w/\WgLive c.ty c.Wg w) 90 _
   walk_nrm
   repeat (first
    |refine bU E ?_
    |refine cX E ?_
    |refine aP E ?_
    |refine bD E ?_
    |refine bI E ?_
    |refine cY E ?_
    |refine cC E ?_
    |refine cE E ?_
    |refine cF E ?_
    |refine bL E ?_
    |refine dO E ?_
    |refine bM E rfl ?_
    |refine bZ E rfl ?_
    | (refine cH E rfl rfl ?_;walk_nrm)
    |refine cU E ?_
    |refine cP E ?_
    |refine cJ E ?_
    |refine eI E ?_
    | (refine eP E rfl rfl H.f_uCas rfl ?_;walk_nrm)
    | (refine pL E rfl rfl sQ2 rfl rfl H.underlying_tPU32 H.underlying_tUP H.room_tU32 (fun w a=>yp a.2) ?_;walk_nrm)
    | (refine yo E rfl (fun w _=>stepG_markAt .write sI rfl rfl sQ2 rfl H.f_raceWrite (x_raceWrite_n L) (x_raceWrite_b L) (x_raceWrite_x L) (x_raceWrite_f L) (ad:=⟨c.Wg,1,none⟩) (by simp[Act.eval])) (fun w _=>jj c b w _ rfl) ?_;walk_nrm)
    | (refine bV E rfl rfl sQ2 (fun w a K d=>?_);go_simp;refine d _ sQ1 ?_;clear d K a w;try w_num))
   refine cD E fun w a=>?_;refine⟨rfl,rfl,fun⟨st,f⟩=>stepG_semacquire_wait rfl rfl rfl H.f_semacquire (x_semacquire_n L) (x_semacquire_b L) (x_semacquire_x L) (x_semacquire_f L) (by simp[Act.eval,smA]) f.cellSm,fun t=>?_⟩;refine⟨_,(stepG_semacquire (n:=1) rfl rfl sQ2 rfl H.f_semacquire (x_semacquire_n L) (x_semacquire_b L) (x_semacquire_x L) (x_semacquire_f L) (by simp[Act.eval,smA]) t.cellSm sQ2 (t.thaw 1)).tr rI,60,?_⟩;have n:WgLive c.ty c.Wg (w.setCell (smA c.Wg) (.int .u32 0)):=⟨_,_,t.setSm 0⟩;have l:X (w.setCell (smA c.Wg) (.int .u32 0))/\WgLive c.ty c.Wg (w.setCell (smA c.Wg) (.int .u32 0)):=⟨q _ _ a.1 (zW (aside_setCell w (smA c.Wg) _) n),n⟩;generalize w.setCell (smA c.Wg) (.int .u32 0)=u at l⊢;clear t a n w;revert u;show cO c.P true (R0 c) (D0 c b) (AtW4 c b) (fun w=>X w/\WgLive c.ty c.Wg w) 60 _
   walk_nrm
   repeat (first
    |refine bU E ?_
    |refine cX E ?_
    |refine aP E ?_
    |refine bD E ?_
    |refine bI E ?_
    |refine cY E ?_
    |refine cC E ?_
    |refine cE E ?_
    |refine cF E ?_
    |refine bL E ?_
    |refine dO E ?_
    |refine bM E rfl ?_
    |refine bZ E rfl ?_
    | (refine cH E rfl rfl ?_;walk_nrm)
    |refine cU E ?_
    |refine cP E ?_
    |refine cJ E ?_
    |refine eI E ?_
    | (refine eY E rfl rfl sQ2 rfl H.f_uLoad (nm_uLoad L) rfl ?_;walk_nrmf uLoadFn)
    | (refine bV E rfl rfl sQ2 (fun w a K d=>?_);go_simp;refine d _ sQ1 ?_;clear d K a w;try w_num))
   refine cD E (fun w a=>⟨rfl,fun f=>⟨_,stepG_load_atomic (v:=0) rfl rfl sQ2 rfl H.f_loadU64 (x_loadU64_n L) (x_loadU64_b L) (x_loadU64_x L) .u64 (x_loadU64_f L) rfl f.cellSt,60,?_⟩⟩);clear f;revert w;show cO c.P true (R0 c) (D0 c b) (AtKe c b) (fun w=>X w/\WgLive c.ty c.Wg w) 60 _
   walk_nrm
   repeat (first
    |refine bU E ?_
    |refine cX E ?_
    |refine aP E ?_
    |refine bD E ?_
    |refine bI E ?_
    |refine cY E ?_
    |refine cC E ?_
    |refine cE E ?_
    |refine cF E ?_
    |refine bL E ?_
    |refine dO E ?_
    |refine bM E rfl ?_
    |refine bZ E rfl ?_
    | (refine cH E rfl rfl ?_;walk_nrm)
    |refine cU E ?_
    |refine cP E ?_
    |refine cJ E ?_
    |refine eI E ?_
    | (refine eP E rfl rfl H.f_uLoad rfl ?_;walk_nrm)
    | (refine bV E rfl rfl sQ2 (fun w a K d=>?_);go_simp;refine d _ sQ1 ?_;clear d K a w;try w_num))
   refine cD E fun w a=>?_;refine⟨rfl,_,stepG_mark0 .enable sI rfl rfl sQ2 rfl H.f_enable (x_enable_n L) (x_enable_b L) (x_enable_x L) (x_enable_f L),30,?_⟩;revert w;show cO c.P true (R0 c) (D0 c b) (AtAcq c) (fun w=>X w/\WgLive c.ty c.Wg w) 30 _
   walk_nrm
   repeat (first
    |refine bU E ?_
    |refine cX E ?_
    |refine aP E ?_
    |refine bD E ?_
    |refine bI E ?_
    |refine cY E ?_
    |refine cC E ?_
    |refine cE E ?_
    |refine cF E ?_
    |refine bL E ?_
    |refine dO E ?_
    |refine bM E rfl ?_
    |refine bZ E rfl ?_
    | (refine cH E rfl rfl ?_;walk_nrm)
    |refine cU E ?_
    |refine cP E ?_
    |refine cJ E ?_
    |refine eI E ?_
    | (refine pL E rfl rfl sQ2 rfl rfl H.underlying_tWgP H.underlying_tUP H.room_tWg (fun w a=>SB a.2) ?_;walk_nrm)
    | (refine bV E rfl rfl sQ2 (fun w a K d=>?_);go_simp;refine d _ sQ1 ?_;clear d K a w;try w_num))
   refine cD E fun w a=>?_;refine⟨rfl,_,stepG_markAt .acquire sI rfl rfl sQ2 rfl H.f_acquire (x_acquire_n L) (x_acquire_b L) (x_acquire_x L) (x_acquire_f L) (by simp[Act.eval,stA]),i _ _ a.1 a.2 ?_⟩;revert w;show cO c.P true AtRel qT _ (fun w=>X w/\WgLive c.ty c.Wg w) 40 _;replace E:=Is c q
   walk_nrm
   repeat (first
    |refine bU E ?_
    |refine cX E ?_
    |refine aP E ?_
    |refine bD E ?_
    |refine bI E ?_
    |refine cY E ?_
    |refine cC E ?_
    |refine cE E ?_
    |refine cF E ?_
    |refine bL E ?_
    |refine dO E ?_
    |refine bM E rfl ?_
    |refine bZ E rfl ?_
    | (refine cH E rfl rfl ?_;walk_nrm)
    |refine cU E ?_
    |refine cP E ?_
    |refine cJ E ?_
    |refine eI E ?_
    | (refine bV E rfl rfl sQ2 (fun w a K d=>?_);go_simp;refine d _ sQ1 ?_;clear d K a w;try w_num))
   refine jO E rfl rfl H.f_wait rfl ?_;exact cD E fun w _=>rfl
  ·refine⟨_,stepG_cas_miss (v:=(v':Int)*KK) (old:=S) (n:=S+1) rfl rfl sQ2 rfl H.f_casU64 (x_casU64_n L) (x_casU64_b L) (x_casU64_x L) .u64 (x_casU64_f L) rfl rfl rfl f.cellSt (f.thaw 0) (by rw[<-p];simp only[KK];omega),60,?_⟩
   clear f x e;revert w;show cO c.P true (R0 c) (D0 c b) (c.Anch b) (fun w=>X w/\WgLive c.ty c.Wg w) 60 _
   walk_nrm
   repeat (first
    |refine bU E ?_
    |refine cX E ?_
    |refine aP E ?_
    |refine bD E ?_
    |refine bI E ?_
    |refine cY E ?_
    |refine cC E ?_
    |refine cE E ?_
    |refine cF E ?_
    |refine bL E ?_
    |refine dO E ?_
    |refine bM E rfl ?_
    |refine bZ E rfl ?_
    | (refine cH E rfl rfl ?_;walk_nrm)
    |refine cU E ?_
     |refine cJ E ?_
    |refine eI E ?_
    | (refine eP E rfl rfl H.f_uCas rfl ?_;walk_nrm)
    | (refine bV E rfl rfl sQ2 (fun w a K d=>?_);go_simp;refine d _ sQ1 ?_;clear d K a w;try w_num))
   refine cP E ?_;exact cD E (fun w a=>o _ _ ⟨_,rfl,sI,sI,by rw[<-s];exact a⟩)
end
end
end Go.Phase
namespace Go.Proofs
section
open Tryz
abbrev Tryz.link:Go.Conc.Lib.WgLink:={add:=143,done:=146,wait:=100,relMerge:=181,disable:=148,enable:=150,inBubble:=156,associate:=182,fatal:=183,uOr:=184,uAdd:=185,raceRead:=186,uLoad:=149,uStore:=187,disassociate:=154,semrelease:=188,acquire:=151,isAssociated:=152,uCas:=153,raceWrite:=155,semacquire:=157,orU64:=225,addU64:=226,loadU64:=189,storeU64:=227,casU64:=190,tWgP:=234,tUP:=238,tAssoc:=268,tWg:=189,tAU:=186,tU64:=39,tUint:=93,tU32:=187,tPU32:=242,tPAU:=274,tPU64:=276,tNoCopy:=182,tANoCopy:=183,tAlign64:=184}
def Tryz.sX:Go.Conc.Lib.WgLib Tryz.prog Tryz.link:=
 ⟨func143,func146,func100,func181,func148,func150,func156,func182,func183,func184,func185,func186,func149,func187,func154,func188,func151,func152,func153,func155,func157,func225,func226,func189,func227,func190,underlying234,runUnderlying234,sizeOf234,isAgg234,zeroValue234,underlying238,runUnderlying238,sizeOf238,isAgg238,zeroValue238,underlying268,runUnderlying268,sizeOf268,isAgg268,zeroValue268,underlying189,runUnderlying189,sizeOf189,isAgg189,zeroValue189,underlying186,runUnderlying186,sizeOf186,isAgg186,zeroValue186,underlying39,runUnderlying39,sizeOf39,isAgg39,zeroValue39,underlying93,runUnderlying93,sizeOf93,isAgg93,zeroValue93,underlying187,runUnderlying187,sizeOf187,isAgg187,zeroValue187,underlying242,runUnderlying242,sizeOf242,isAgg242,zeroValue242,underlying274,runUnderlying274,sizeOf274,isAgg274,zeroValue274,underlying276,runUnderlying276,sizeOf276,isAgg276,zeroValue276,underlying0,runUnderlying0,sizeOf0,isAgg0,zeroValue0,underlying3,runUnderlying3,sizeOf3,isAgg3,zeroValue3,underlying4,runUnderlying4,sizeOf4,isAgg4,zeroValue4,underlying9,runUnderlying9,sizeOf9,isAgg9,zeroValue9,underlying20,runUnderlying20,sizeOf20,isAgg20,zeroValue20,underlying21,runUnderlying21,sizeOf21,isAgg21,zeroValue21,kR,kR⟩
end
end Go.Proofs
namespace Go.Walk
variable{main:Bool}{gs:K2}{m:Nat}{P:K5}
section
open Go.Conc Go.Phase
def SC{R:WR->K6}{D:WU}{a:WM}{g:K2}{w:WR}{n:Nat}(h:Goes P main R D a n g w)(b:n<=m):Goes P main R D a m g w:=by
 induction b with
 |refl=>exact h
 |step _ c=>exact Goes.more c
section
variable{P:K5}{main:Bool}{R:WR->K6}{D:WU}{b:WM}
theorem qU{gs:K2}(d:∀w,R w w)(j:∀g w,b g w->∃i c k,stepG P main g w=.go i c k/\k≠#[]):
  ∀(n N:Nat) (g:K2) (w:WR),Goes P main R qT (fun i _=>i=gs) n g w->Goes P main R D b N g w->∃m,Goes P main R D b m gs w
 |0,N,g,w,a,h=>by have:g=gs:=a w (d w);subst this;exact⟨N,h⟩
 |n+1,N,g,w,a,h=>by
  rcases a with a| ⟨_,a⟩
  .have:g=gs:=a w (d w);subst this;exact⟨N,h⟩
  .replace a:=a w (d w);generalize f:stepG P main g w=p at a;cases p with
   |go i c k=>
    simp only[goes_go] at a;obtain⟨⟨rfl,rfl⟩,a⟩:=a;have no:¬b g c:=fun o=>by have⟨_,_,k,e,l⟩:=j _ _ o;rw[f] at e;cases e;exact l rfl
    cases N with
    |zero=>exact absurd (h c (d c)) no
    |succ N=>
     rcases h with h| ⟨_,h⟩
     .exact absurd (h c (d c)) no
     .have h:=h c (d c);rw[f] at h;simp only[goes_go] at h;exact qU d j n N i c a h.2
   |_=>exact a.elim
end
section
variable{P:K5}{main:Bool}{R:WR->K6}{D:WU}{h:WM}{F:K6}
theorem DY{gs:K2}(i:∀w c,F w->R w c->F c)(q:∀w,D w w #[]){m:Nat}(o:∀w,F w->Goes P main R D h m gs w)(k:∀a b d,R a b->R b d->R a d)(p:∀w,R w w):
  ∀(n:Nat) (g:K2) (w:WR),F w->Goes P main R qT (fun l _=>l=gs) n g w->Goes P main R D h (n+m) g w
 |0,g,w,j,e=>by have:g=gs:=e w (p w);subst this;rw[aAM];exact o w j
 |n+1,g,w,j,e=>by
  rcases e with e| ⟨s,e⟩
  .have:g=gs:=e w (p w);subst this;exact SC (o w j) oM
  .rw[show n+1+m=(n+m)+1 by omega];refine Goes.step s fun c f=>?_;have e:=e c f;generalize stepG P main g c=t at e;cases t with
   |go l r u=>
    simp only[goes_go] at e⊢;obtain⟨⟨rfl,rfl⟩,e⟩:=e;exact⟨q _,DY i q o k p n l r (i _ _ j f) e⟩
   |_=>exact e.elim
end
end
end Go.Walk
namespace Go.Phase
section
open Go.Conc Go.Walk Go.RowKit Go.Conc.Lib Go.ConcR.Gen Go.ConcN.Gen Go.Lift
open Go.ConcN (WgLive Has RW DWs AtR0 EvW)
open Go.ConcR (KK WgAt stA smA rd wr mk Payload)
section
variable [Payload] {L:WgLink}
def KS{P:K5}(H:WgLib P L){Wg:Nat}{F:K6}(b:∀w,F w->WgLive L.tWg Wg w){b₀:Frame}{a₀:Act}{ops0:DQ}{i₀:Nat}{rest0:K4}{k₀:List Item}{cs:eX}:
  ∃h j i f,(∀R:WR->K6,(∀w a,F w->R w a->F a)->cO P false R qT (fun g _=>g=h) F 60 (G ((base L.add).at ⟨#[.pointer (some (ad Wg 0)),vI (-1)]++Array.replicate 115 ud,[]⟩ [.code (body_add L)]) (b₀.at a₀ (.inRegion ops0 (i₀::rest0)::k₀)::cs)))/\
   (h.status=.running/\∀w,F w->stepG P false h w=.go j w #[mk (.releaseMerge (stA Wg))])/\
   (∀R:WR->K6,(∀w a,F w->R w a->F a)->cO P false R qT (fun g _=>g=i) F 60 j)/\(∀w,F w->stepG P false i w=.go f w #[mk .disable]):=by
 lib_facts
 simp only[body_add,addFn,aAK]
 walk_nrm
 apply Exists.intro;apply Exists.intro;apply Exists.intro;apply Exists.intro;refine⟨fun R d=>?_,⟨?_,fun w c=>?_⟩,fun R d=>?_,fun w c=>?_⟩
 ·have E:Env R qT F:=⟨d,fun w=>⟨rfl,rfl⟩⟩
  repeat (first
   |refine bU E ?_
   |refine aP E ?_
   |refine bD E ?_
   |refine bI E ?_
   |refine cY E ?_
   |refine bM E rfl ?_
   | (refine pL E rfl rfl sQ2 rfl rfl H.underlying_tWgP H.underlying_tUP H.room_tWg (fun w c=>SB (b w c)) ?_;walk_nrm)
   | (refine bV E rfl rfl sQ2 (fun w c K e=>?_);go_simp;refine e _ sQ1 ?_;clear e K c w;try w_num))
  exact cD E fun w c=>rfl
 ·rfl
 ·exact stepG_markAt .releaseMerge sI rfl rfl sQ2 rfl H.f_relMerge (x_relMerge_n L) (x_relMerge_b L) (x_relMerge_x L) (x_relMerge_f L) (ad:=⟨Wg,0,none⟩) (by simp[Act.eval])
 ·have E:Env R qT F:=⟨d,fun w=>⟨rfl,rfl⟩⟩
  walk_nrm
  repeat (first
   |refine bU E ?_
   |refine aP E ?_
   |refine bD E ?_
   |refine bI E ?_
   |refine cY E ?_
   |refine bM E rfl ?_
   | (refine pL E rfl rfl sQ2 rfl rfl H.underlying_tWgP H.underlying_tUP H.room_tWg (fun w c=>SB (b w c)) ?_;walk_nrm)
   | (refine bV E rfl rfl sQ2 (fun w c K e=>?_);go_simp;refine e _ sQ1 ?_;clear e K c w;try w_num))
  exact cD E fun w c=>rfl
 ·exact stepG_mark0 .disable sI rfl rfl sQ2 rfl H.f_disable (x_disable_n L) (x_disable_b L) (x_disable_x L) (x_disable_f L)
def KT{P:K5}(H:WgLib P L){Wg C n k:Nat}{val:vZ}{l:Frame}{j:Act}{d:DQ}{f:Nat}{c:K4}{i:List Item}{s:eX}{Q:Nat}(J:QuitsD P Q 0 (G (l.at (j.put ((d[f]?).bind (·.dst)) (.tuple #[])) (.inRegion d c::i)) s)):
  ∃v,(∀R:WR->K6,(∀w b,(WgLive L.tWg Wg w/\Has C (k - 1) val w)->R w b->(WgLive L.tWg Wg b/\Has C (k - 1) val b))->cO P false R qT (fun g _=>g=v) (fun w=>WgLive L.tWg Wg w/\Has C (k - 1) val w) 60 (G ((base L.add).at ⟨#[.pointer (some (ad Wg 0)),vI (-1)]++Array.replicate 115 ud,[]⟩ [.code (body_add L)]) (l.at j (.inRegion d (f::c)::i)::s)))/\
   ∀w,(WgLive L.tWg Wg w/\Has C (k - 1) val w)->AtR0 P L.tWg Wg C n 0 k val v w:=by
 have⟨v,S,K,M,B,⟨D,z⟩,x,q⟩:=KS H (Wg:=Wg) (F:=fun w=>WgLive L.tWg Wg w/\Has C (k - 1) val w) (fun w h=>h.1) (b₀:=l) (a₀:=j) (ops0:=d) (i₀:=f) (rest0:=c) (k₀:=i) (cs:=s);refine⟨v,B,fun w p=>?_⟩;have O:Goes P false (RW L.tWg Wg C n 0 (k - 1)) (DWs Wg (fun _ _=>False) (fun _ _=>False) C n k) (AtR0 P L.tWg Wg C n 0 k val) 20 (G ((base L.add).at ⟨#[.pointer (some (ad Wg 0)),vI (-1)]++Array.replicate 115 ud,[]⟩ [.code (body_add L)]) (l.at j (.inRegion d (f::c)::i)::s)) w:=by
  walk_nrm
  exact addNegN H J w p
 have u:∀w b,(WgLive L.tWg Wg w/\Has C (k - 1) val w)->RW L.tWg Wg C n 0 (k - 1) w b->(WgLive L.tWg Wg b/\Has C (k - 1) val b):=fun w b h r=>⟨r.live h.1,r.cell.tr h.2⟩;have a:∀w,RW L.tWg Wg C n 0 (k - 1) w w:=fun w=>⟨fun _ _ _ _=>rfl,id,id,rfl⟩;have t:∀g w,AtR0 P L.tWg Wg C n 0 k val g w->∃y I F,stepG P false g w=.go y I F/\F≠#[]:=fun g w h=>by have⟨_,_,y,e,_⟩:=h;exact⟨_,_,_,e,sI⟩
 have⟨N,o⟩:=qU a t _ _ _ w (B _ u w p) O;have key:∀E,¬Goes P false (RW L.tWg Wg C n 0 (k - 1)) (DWs Wg (fun _ _=>False) (fun _ _=>False) C n k) (AtR0 P L.tWg Wg C n 0 k val) E S w:=fun E h=>by
  have⟨A,m⟩:=qU a t _ _ _ w (x _ u w p) h;have no:¬AtR0 P L.tWg Wg C n 0 k val K w:=fun T=>by have⟨_,_,y,e,_⟩:=T;rw[q w p] at e;simp[mk] at e
  cases A with
  |zero=>exact no (m w (a w))
  |succ A=>
   rcases m with m| ⟨_,m⟩
   .exact no (m w (a w))
   .have m:=m w (a w);rw[q w p] at m;simp only[goes_go] at m;exact(m.1.2 (mk .disable) sI).2.1 rfl
 cases N with
 |zero=>exact o w (a w)
 |succ N=>
  rcases o with o| ⟨_,o⟩
  .exact o w (a w)
  .have o:=o w (a w);rw[z w p] at o;simp only[goes_go] at o;exact absurd o.2 (key N)
end
end
end Go.Phase
namespace Go.Walk
section
open Go.Conc Go.Phase
section
section
variable {P:Program} {main:Bool} {R:World->World->Prop} {D:World->World->Array Event->Prop} {Stop:Goroutine->World->Prop} {F:World->Prop} {n:Nat} (E:Env R D F)
 {b:Frame} {a:Act} {k:List Item} {cs:List Frame} {ops:Array Oper} {i:Nat} {rest:List Nat} {o:Oper}
def nJ(f:FuncId)(a:Ff):Deferred:={target:=.fn (.func f) a,args:=#[]}
theorem wQ{x:Operand}{f:FuncId}{c:Ff}{w:WR}(h:ops[i]?=some o)(l:Region.wanted o (yielded ops a.tmps)=true)(m:b.kind≠.early)(e:o.op=.defer {callee:=.value x,args:=#[],argTypes:=#[]})(j:a.eval x=.func (.func f) #[] c):
  stepG P main (G (b.at a (.inRegion ops (i::rest)::k)) cs) w=.go (G (b.at (Act.put ⟨a.tmps,nJ f c::a.defers⟩ o.dst undef) (.inRegion ops rest::k)) cs) w #[]:=by
 have p:(execOp a.eval o).run P w=.ok (.defer (nJ f c)) w:=by unfold execOp;simp[e,resolve,Deferred.ofValue,j,nJ]
 have n:(execOp a.eval o).events P w #[]=#[]:=by unfold execOp;simp[e,resolve,Deferred.ofValue,j]
 have d:(b.at ⟨a.tmps,nJ f c::a.defers⟩ (.inRegion ops (i::rest)::k)).finish undef=b.at (Act.put ⟨a.tmps,nJ f c::a.defers⟩ o.dst undef) (.inRegion ops rest::k):=by rw[Frame.finish_at,h];rfl
 have g:(b.kind==CallKind.early)=false:=by simpa using m
 rw[stepG_oper h l,<-d];simp[stepG.apply,p,n,G,Frame.at,g,GStep.after,seen_none]
theorem uR{e:List Item}{j:List Deferred}{f:FuncId}{fn:Func}{d:Array Value}{c:Code}{w:World}(k:a.defers=nJ f d::j)(h:P.funcs[f]?=some fn)(g:(fn.name== "runtime.NumGoroutine")=false)(i:fn.body=some c):
  stepG P main (G {b.at a e with mode:=.returning} cs) w=
   .go (G ((baseD f).at {tmps:=d++Array.replicate (fn.ntmps - d.size) undef,defers:=[]} [.code c]) ({b.at ⟨a.tmps,j⟩ e with mode:=.returning}::cs)) w #[]:=by
 have l:¬fn.name= "runtime.NumGoroutine" :=by simpa using g
 rw[<-enter_atD d h i];simp[G,stepG,unwind,callDeferred,Frame.at,k,nJ,invoke,callFunc,h,l,i,GStep.after,seen_none]
theorem zX{x:Operand}{f:FuncId}{fn:Func}{d:Array Value}{c:Code}{w:World}(q:ops[i]?=some o)(n:Region.wanted o (yielded ops a.tmps)=true)(p:b.kind≠.early)(g:o.op=.call {callee:=.value x,args:=#[],argTypes:=#[]})(m:a.eval x=.func (.func f) #[] d)(h:P.funcs[f]?=some fn)(e:(fn.name== "runtime.NumGoroutine")=false)(j:fn.body=some c):
  stepG P main (G (b.at a (.inRegion ops (i::rest)::k)) cs) w=.go (G ((base f).at {tmps:=d++Array.replicate (fn.ntmps - d.size) undef,defers:=[]} [.code c]) (b.at a (.inRegion ops (i::rest)::k)::cs)) w #[]:=by
 have l:¬fn.name= "runtime.NumGoroutine" :=by simpa using e
 have s:(execOp a.eval o).run P w=.ok (.enter f d) w:=by unfold execOp;simp[g,resolve,Deferred.ofValue,m,invoke,callFunc,h,l,j]
 have r:(execOp a.eval o).events P w #[]=#[]:=by unfold execOp;simp[g,resolve,Deferred.ofValue,m,invoke,callFunc,h,l,j]
 rw[stepG_enter q n p s,enter_at d h j];unfold listed;rw[r,seen_none]
theorem sY{fr:Frame}{w:WR}(e:ops[i]?=some o)(f:Region.wanted o (yielded ops a.tmps)=true)(h:b.kind=.deferred)(d:o.op=.call {callee:=.builtin .recover,args:=#[],argTypes:=#[]})(g:fr.mode=.returning):
  stepG P main (G (b.at a (.inRegion ops (i::rest)::k)) (fr::cs)) w=.go (G (b.at (a.put o.dst .nilIface) (.inRegion ops rest::k)) (fr::cs)) w #[]:=by
 have l:(execOp a.eval o).run P w=.ok .recover w:=by unfold execOp;simp[d,resolve,go_sem]
 have j:(execOp a.eval o).events P w #[]=#[]:=by unfold execOp;simp[d,resolve,go_sem]
 have c:(b.at a (.inRegion ops (i::rest)::k)).finish .nilIface=b.at (a.put o.dst .nilIface) (.inRegion ops rest::k):=by rw[Frame.finish_at,e];rfl
 rw[stepG_oper e f,<-c];simp[stepG.apply,l,j,G,Frame.at,h,tryRecover,g,GStep.after,seen_none]
theorem GU(E:Env R D F){x:Operand}{f:FuncId}{c:Ff}(j:ops[i]?=some o)(e:Region.wanted o (yielded ops a.tmps)=true)(g:b.kind≠.early)(d:o.op=.defer {callee:=.value x,args:=#[],argTypes:=#[]})(l:a.eval x=.func (.func f) #[] c)(h:cO P main R D Stop F n (G (b.at (Act.put ⟨a.tmps,nJ f c::a.defers⟩ o.dst ud) (.inRegion ops rest::k)) cs)):cO P main R D Stop F (n+1) (G (b.at a (.inRegion ops (i::rest)::k)) cs):=dU E rfl (fun _ _=>wQ j e g d l) h
theorem BU(E:Env R D F){e:List Item}{i:List Deferred}{f:FuncId}{fn:Func}{d:Array Value}{c:Code}(j:a.defers=nJ f d::i)(k:P.funcs[f]?=some fn)(g:(fn.name== "runtime.NumGoroutine")=false)(l:fn.body=some c)(h:cO P main R D Stop F n (G ((baseD f).at {tmps:=d++Array.replicate (fn.ntmps - d.size) ud,defers:=[]} [.code c]) ({b.at ⟨a.tmps,i⟩ e with mode:=.returning}::cs))):
 cO P main R D Stop F (n+1) (G {b.at a e with mode:=.returning} cs):=dU E rfl (fun _ _=>uR j k g l) h
theorem KU(E:Env R D F){x:Operand}{f:FuncId}{fn:Func}{d:Array Value}{c:Code}(m:ops[i]?=some o)(j:Region.wanted o (yielded ops a.tmps)=true)(l:b.kind≠.early)(g:o.op=.call {callee:=.value x,args:=#[],argTypes:=#[]})(r:a.eval x=.func (.func f) #[] d)(p:P.funcs[f]?=some fn)(e:(fn.name== "runtime.NumGoroutine")=false)(q:fn.body=some c)(h:cO P main R D Stop F n (G ((base f).at {tmps:=d++Array.replicate (fn.ntmps - d.size) ud,defers:=[]} [.code c]) (b.at a (.inRegion ops (i::rest)::k)::cs))):cO P main R D Stop F (n+1) (G (b.at a (.inRegion ops (i::rest)::k)) cs):=dU E rfl (fun _ _=>zX m j l g r p e q) h
theorem PK(E:Env R D F){fr:Frame}(g:ops[i]?=some o)(d:Region.wanted o (yielded ops a.tmps)=true)(f:b.kind=.deferred)(c:o.op=.call {callee:=.builtin .recover,args:=#[],argTypes:=#[]})(e:fr.mode=.returning)(h:cO P main R D Stop F n (G (b.at (a.put o.dst .nilIface) (.inRegion ops rest::k)) (fr::cs))):
 cO P main R D Stop F (n+1) (G (b.at a (.inRegion ops (i::rest)::k)) (fr::cs)):=dU E rfl (fun _ _=>sY g d f c e) h
theorem gF(E:Env R D F){v:vZ}(l:ops[i]?=some o)(g:Region.wanted o (yielded ops a.tmps)=true)(j:b.kind≠.early)(m:∀w,F w->(execOp a.eval o).run P w=.ok (.value v) w)(p:∀w,F w->D w w (listed P b.fn a o w))(h:cO P main R D Stop F n (G (b.at (a.put o.dst v) (.inRegion ops rest::k)) cs)):cO P main R D Stop F (n+1) (G (b.at a (.inRegion ops (i::rest)::k)) cs):=
 fun _ e=>Goes.step rfl fun c d=>by have f:=E.cl _ _ e d;rw[stepG_value l g j (m c f)];exact⟨p c f,h _ f⟩
theorem fN(E:Env R D F){g:K2}{m:Nat}(h:cO P main R D Stop F n g)(b:n<=m):cO P main R D Stop F m g:=fun w a=>SC (h w a) b
end
theorem dF{P:K5}{o:Oper}{a:Operand->vZ}{t:Fh}{x:Operand}{c:Addr}{v:vZ}{w:WR}(b:o.op=.load t x)(g:a x=.pointer (some c))(e:∀w,Sem.run P (Go.sizeOf t) w=.ok 1 w)(d:∀w,Sem.run P (isAgg t) w=.ok false w)(f:w.cell? c=some v):
  (execOp a o).run P w=.ok (.value v) w/\(execOp a o).events P w #[]=#[⟨.cell c,false,false⟩]:=by
 unfold execOp;simp only[b,g];constructor
 .simp[go_sem,e,d,f]
 .simp[go_sem,e,d,f]
end
end
end Go.Walk
namespace Go.Mark
open Go.RowKit Go.Proofs Go.Proofs.Tryz
section
open Go.Conc Go.Walk Go.Phase Go.Conc.Lib Go.ConcR.Gen Go.ConcN.Gen Go.Lift
open Go.ConcN (WgLive Has RW DWs AtR0 PayAt)
open Go.ConcR (KK WgAt stA smA rd wr mk Payload)
section
instance:Payload:=⟨132⟩
abbrev pt (b:Nat):Value:=.pointer (some ⟨b,0,none⟩)
noncomputable def bot:Frame:={(default:Frame) with fn:=Tryz.prog.funcs.size,defers:=[],mode:=.panicking [goexitEntry]}
structure PL (c:iF):Prop where
 P:c.P=Tryz.prog
 ty:c.ty=189
 tb:c.tb=4
 Nj:Geo c
structure XB (c:iF) (Low b:Nat):Prop where
 lo:c.base<=b
 hi:b<Low
 wg:b≠c.Wg
 cc:b≠c.C
theorem cell_of{w:WR}{b:Nat}{v:vZ}{e:Fh}{f:Nat×Nat}(h:w.heap[b]?=some (.cells #[v] e f)):w.cell? ⟨b,0,none⟩=some v:=by simp[World.cell?,h]
theorem KV{c:iF}(I:PL c){w:WR}{b:Nat}{x:Ff}{e:Fh}{f:Nat×Nat}(h:w.heap[b]?=some (.cells x e f))(d:e≠4):¬jN c w b:=by rintro⟨i,g,a⟩;rw[h] at a;simp only[aAF,Obj.cells.injEq] at a;rw[I.tb] at a;exact d a.2.1
theorem uS{c:iF}(I:PL c){Low i b:Nat}{own:Nat->Prop}{w a:WR}{x:Ff}{e:Fh}{f:Nat×Nat}(B:XB c Low b)(r:RX c Low i own w a)(h:w.heap[b]?=some (.cells x e f))(d:e≠4):a.heap[b]?=some (.cells x e f):=
 (r.eT b B.hi B.wg B.cc (KV I h d)).tr h
theorem SD{c:iF}(I:PL c){Low b k:Nat}{w:WR}{x:Ff}{e:Fh}{f:Nat×Nat}(B:XB c Low b)(h:w.heap[b]?=some (.cells x e f))(a:e≠4):yk c Low w ⟨.cell ⟨b,k,none⟩,false,false⟩:=
 .inl ⟨⟨b,k,none⟩,rfl,B.lo,B.hi,B.wg,B.cc,KV I h a⟩
theorem KW{c:iF}{w:WR}(f off:Nat)(v:vZ)(h:Tidy c w):Tidy c (w.setCell ⟨f,off,none⟩ v):=fun b o g a=>by
 by_cases e:b=f
 .subst e;cases d:w.heap[b]? with
  |none=>
   have:(w.sA b off v).heap[b]?=none:=by rw[aCc] at d⊢;rw[(aside_setCell w ⟨b,off,none⟩ v).size];exact d
   rw[this] at a;cases a
  |some i=>
   obtain⟨x,e,rfl⟩:=h _ _ g d;rw[setCell_eq_setRow w b off x e (0,0) v d,setRow_heap w b _ _ _ _ d] at a;cases a;exact⟨_,_,rfl⟩
 .rw[(aside_setCell w ⟨f,off,none⟩ v).block b e] at a;exact h b o g a
section
variable {c:iF} (I:PL c) {Low i b bw:Nat} {val:vZ}
theorem PM(w:WR):DB c Low b i w w #[]:=⟨rfl,fun _ _ _=>rfl,id,id,fun _ _=>rfl,(fun e a=>by simp at a),id,rfl,rfl⟩
theorem GV{w:WR}{a:aA}(h:∀e∈a,yk c Low w e):DB c Low b i w w a:=⟨rfl,fun _ _ _=>rfl,id,id,fun _ _=>rfl,fun e d=>.inl (h e d),id,rfl,rfl⟩
structure FT (c:iF) (i b bw:Nat) (val:Value) (w:World):Prop where
 live:WgLive 189 c.Wg w
 has:Has c.C i val w
 wv:w.heap[bw]?=some (.cells #[pt c.Wg] 234)
 out:c.Out i b w
theorem FT.rely(I:PL c)(B:XB c Low bw){w a:WR}(h:FT c i b bw val w)(r:RX c Low i (· =b) w a):FT c i b bw val a:=
 ⟨by have:=r.live;rw[I.ty] at this;exact this h.live,r.cell.tr h.has,uS I B r h.wv dC,I.Nj.out i b _ _ (r.mine b rfl) r.cell h.out⟩
theorem It(I:PL c)(B:XB c Low bw):Env (RX c Low i (· =b)) (DB c Low b i) (FT c i b bw val):=⟨fun _ _ h r=>h.rely I B r,fun w=>PM w⟩
theorem jk(I:PL c)(B:XB c Low bw){l:Frame}{j:Act}{d:DQ}{f:Nat}{e:K4}{g:List Item}{s:eX}{qt:Nat}(t:QuitsD prog qt 0 (G (l.at (j.put ((d[f]?).bind (·.dst)) (.tuple #[])) (.inRegion d e::g)) s)):
  cO prog false (RX c Low i (· =b)) (DB c Low b i) (DS c i b) (FT c i b bw val) 60 (G ((base 143).at ⟨#[pt c.Wg,vI (-1)]++Array.replicate 115 ud,[]⟩ [.code (body_add link)]) (l.at j (.inRegion d (f::e)::g)::s)):=by
 have⟨v,u,q⟩:=KT sX (Wg:=c.Wg) (C:=c.C) (n:=c.n) (k:=i+1) (val:=val) t;intro w o;have p:∀w a,(WgLive 189 c.Wg w/\Has c.C (i+1 - 1) val w)->RX c Low i (· =b) w a->(WgLive 189 c.Wg a/\Has c.C (i+1 - 1) val a):=fun w a h r=>
  ⟨by have:=r.live;rw[I.ty] at this;exact this h.1,r.cell.tr h.2⟩
 refine DY (F:=FT c i b bw val) (fun _ _ h r=>h.rely I B r) (fun w=>PM w) (m:=0) (fun w o=>?_) (fun _ _ _ h k=>h.tr k) (fun w=>RX.refl w) 60 _ w o (u _ p w ⟨o.live,o.has⟩);refine Goes.stop fun a n=>?_;have m:=o.rely I B n;refine⟨⟨val,?_⟩,m.out⟩;rw[I.P,I.ty];exact q a ⟨m.live,m.has⟩
theorem XC(T:Ff):QuitsD Tryz.prog 2 0 (G {(baseD 144).at ⟨T,[]⟩ [] with mode:=.returning} [bot]):=by
 refine QuitsD.ctl (g':=G bot []) rfl (fun w=>?_) ?_
 .simp[G,stepG,unwind,doReturn,results,Frame.at,baseD,bot,func144,f144,seen,GStep.after,goexitEntry]
 refine QuitsD.ctl (g':={G bot [] with status:=.finished}) rfl (fun w=>?_) ⟨rfl,rfl⟩;simp[G,stepG,unwind,bot,goexitEntry,Frame.catches];rfl
theorem put_defers(T:Ff)(a:List Deferred)(x:Option Tmp)(v:vZ):(Act.put ⟨T,a⟩ x v).defers=a:=by cases x<;>rfl
theorem XD(w:WR)(d:Nat):(Op.equalIn (d+1) 20 .nilIface .nilIface).events Tryz.prog w #[]=#[]:=by unfold Op.equalIn;simp[go_sem]
theorem PN(w:WR):(binOp .neq 20 .nilIface .nilIface).events Tryz.prog w #[]=#[]:=by simp[binOp,Op.equal,go_sem];exact XD w 9999
theorem Nk:(Tryz.f145.name== "runtime.NumGoroutine")=false:=kR
theorem Nl:(Tryz.f98.name== "runtime.NumGoroutine")=false:=kR
theorem Nn:(Tryz.f99.name== "runtime.NumGoroutine")=false:=kR
theorem No:(Tryz.f147.name== "runtime.NumGoroutine")=false:=kR
theorem tail(I:PL c)(B:XB c Low bw){l g:Ff}{h:DQ}{d:Nat}:
  cO Tryz.prog false (RX c Low i (· =b)) (DB c Low b i) (DS c i b) (FT c i b bw val) 120 (G ((base 98).at ⟨l,[]⟩ []) [(baseD 144).at ⟨g,[nJ 145 #[pt bw]]⟩ [.inRegion h [d]],bot]):=by
 have E:=It (b:=b) (i:=i) (val:=val) I B;have n:=PN;have j:∀w,FT c i b bw val w->∀{fn a o},(execOp a.eval o).events prog w #[]=#[⟨.cell ⟨bw,0,none⟩,false,false⟩]->DB c Low b i w w (listed prog fn a o w):=fun w f fn a o p=>
  GV fun e k=>by have k:=mem_listed k;rw[p,aBH] at k;subst k;exact SD I B f.wv dC
 refine PI E ?_;refine jO E rfl rfl func98 rfl ?_;refine aP E ?_;refine PI E ?_;refine BU E (put_defers _ _ _ _) func145 Nk rfl ?_;generalize(Act.put ⟨g,[nJ 145 #[pt bw]]⟩ ((h[d]?).bind (·.dst)) (.tuple #[])).tmps=T;simp only[f145]
 walk_nrm
 repeat (first
  |refine bU E ?_
  |refine cX E ?_
  |refine aP E ?_
  |refine bI E ?_
  |refine bZ E rfl ?_
  |refine bZ E sQ4 ?_
  | (refine PK E rfl rfl rfl rfl rfl ?_;walk_nrm)
  | (refine gF E rfl rfl sQ2 (fun w f=>(dF rfl rfl sizeOf234 isAgg234 (cell_of f.wv)).1) (fun w f=>j w f (dF rfl rfl sizeOf234 isAgg234 (cell_of f.wv)).2) ?_;walk_nrm)
  | (refine eY E rfl rfl sQ2 rfl sX.f_done (nm_done link) rfl ?_;walk_nrmf doneFn)
  | (refine bV E rfl rfl sQ2 (fun w f K m=>?_);go_simp;refine m _ sQ1 ?_;clear m K f w;try w_num))
 refine eY E rfl rfl sQ2 rfl sX.f_add (nm_add link) (c:=body_add link) rfl ?_;refine fN E (n:=60) ?_ oM
 walk_nrm
 rw[show(addFn link).ntmps - 2=115 from rfl];refine jk (qt:=8) I B ?_
 q_c stepG_region_end
 q_c stepG_end
 q_leave0 sX.f_done
 q_c stepG_region_end
 q_c stepG_end
 exact QuitsD.leaveD rfl rfl func145 rfl rfl (XC _)
end
end
end
end Go.Mark
namespace Go.Walk
variable{a:Act}{ad:Addr}{ops:DQ}{main:Bool}{b:Frame}{cs:eX}{k:List Item}{rest:K4}{n i:Nat}{o:Oper}{x y:Operand}{P:K5}{t:Fh}{v u:vZ}{w:WR}
section
open Go.Conc
def KX{R:WR->K6}{D:WU}{c:WM}{F m:K6}(E:Env R D F)(s:ops[i]?=some o)(r:Region.wanted o (yielded ops a.tmps)=true)(q:b.kind≠.early)(t:∀w,F w->∃g,(execOp a.eval o).run P w=.ok .skip g/\D w g (listed P b.fn a o w)/\m g)(h:cO P main R D c m n (G (b.at (a.put o.dst ud) (.inRegion ops rest::k)) cs)):
  cO P main R D c F (n+1) (G (b.at a (.inRegion ops (i::rest)::k)) cs):=
 fun _ j=>Goes.step rfl fun f d=>by have⟨g,e,p,l⟩:=t f (E.cl _ _ j d);rw[stepG_none s r q e];exact⟨p,h _ l⟩
def mK(d:∀z,v≠.agg z)(b:∀z,v≠.tuple z)(e:w.cell? ad=some u)(c:w.frozen? ad=false):
  (store ad v).run P w=.ok () (w.setCell ad v)/\∀a,(store ad v).events P w a=a.push ⟨.cell ad,true,false⟩:=by
 have h:∀a,(store ad v).runT P w a=(.ok () (w.sC ad v),a.push ⟨.cell ad,true,false⟩):=fun a=>by
  show Sem.runT P (.store .plain ad v (.pure ())) w a=_;cases v with
  |agg z=>exact absurd rfl (d z)
  |tuple z=>exact absurd rfl (b z)
  |_=>simp[Sem.runT,e,c];try rfl
 refine⟨?_,fun a=>?_⟩
 .show Sem.run P (.store .plain ad v (.pure ())) w=_;cases v with
  |agg z=>exact absurd rfl (d z)
  |tuple z=>exact absurd rfl (b z)
  |_=>simp[Sem.run,e,c]
 .have:=h a;rw[Sem.events,this]
def fJ{b:Operand->vZ}(e:o.op=.store t x y)(j:b x=.pointer (some ad))(i:b y=v)(f:∀z,v≠.agg z)(a:∀z,v≠.tuple z)(g:∀w,Sem.run P (Go.sizeOf t) w=.ok 1 w)(d:w.cell? ad=some u)(c:w.frozen? ad=false):
  (execOp b o).run P w=.ok .skip (w.setCell ad v)/\(execOp b o).events P w #[]=#[⟨.cell ad,true,false⟩]:=by
 have h:=mK (P:=P) f a d c;unfold execOp;simp only[e,j,i];cases v with
 |agg z=>exact absurd rfl (f z)
 |tuple z=>exact absurd rfl (a z)
 |_=>
  constructor
  .simp[go_sem,stored,g,d,c,h.1]
  .simp[go_sem,storedEv,g,d,c,h.2]
def uT{R:WR->K6}{D:WU}{c:WM}{F F':K6}(E:Env R D F)(C:ops[i]?=some o)(B:Region.wanted o (yielded ops a.tmps)=true)(r:b.kind≠.early)(g:o.op=.store t x y)(K:a.eval x=.pointer (some ad))(H:a.eval y=v)(L:∀z,v≠.agg z)(j:∀z,v≠.tuple z)(A:∀w,Sem.run P (Go.sizeOf t) w=.ok 1 w)(I:∀w,F w->(∃u,w.cell? ad=some u)/\w.frozen? ad=false/\(∀p:aA,(∀e∈p,e=⟨.cell ad,true,false⟩)->D w (w.setCell ad v) p)/\F' (w.setCell ad v))(h:cO P main R D c F' n (G (b.at (a.put o.dst ud) (.inRegion ops rest::k)) cs)):cO P main R D c F (n+1) (G (b.at a (.inRegion ops (i::rest)::k)) cs):=
 KX E C B r (fun w s=>by have⟨⟨u,J⟩,l,q,f⟩:=I w s;have m:=fJ (P:=P) g K H L j A J l;refine⟨_,m.1,q _ (fun e d=>?_),f⟩;have d:=mem_listed d;rw[m.2,aBH] at d;exact d) h
end
end Go.Walk
