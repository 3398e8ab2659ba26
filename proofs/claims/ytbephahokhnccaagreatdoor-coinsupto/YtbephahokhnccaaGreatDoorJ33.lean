import Derived.Test.YtbephahokhnccaaGreatDoorJ25
import Derived.Test.YtbephahokhnccaaGreatDoorJ32
set_option linter.all false
set_option maxRecDepth 100000
set_option maxHeartbeats 16000000
namespace Go
abbrev uf:Value:=undef
end Go
namespace Go.Mark
open Go.RowKit Go.Proofs Go.Proofs.Tryz
variable{A:AM}{a:Act}{dp li:Addr}{h0:Array Obj}{ops:DQ}{c:Ff}{cr:Int}{L:List (Int×Nat×Ac)}{ds:List (bF×SV)}{cs cw:eX}{k:List Item}{l2:K4}{b pw l m dmb p1 p2 pl T d:Nat}{P:K5}{vo:SV}{x7 x8 x9:vZ}{w W u v v' w':WR}{d1 d2:bF}
section
open Go.Lift
variable [aB]
attribute [local go_sem] wd
noncomputable def fS:DQ:=match Tryz.f12.body with
 |some (.seq _ (.seq (.region _ o _) _))=>o
 |_=>#[]
noncomputable def AI:Code:=match Tryz.f12.body with
 |some (.seq _ (.seq _ c))=>c
 |_=>.skip
def kr:jS Tryz.prog fS=true:=kR
def ku:bQ Tryz.prog AI=true:=kR
def AF(n:Nat)(h:n<M)(W:WR):(Op.equalIn 10000 41 (wd n) (wd n)).run zQ.prog W=.ok true W:=by have:=rW n n h h W;rw[decide_eq_true rfl] at this;exact this
def kv(n:Nat)(b:n<1000000000)(W:WR):Cq 21 #[vI (n:Int)] W fun e w'=>e=.rt (wd n)/\Bw W w':=by rw[iU n oM];have a:IntKind.u64.wrap (n:Int)=(n:Int):=IntWalk.u64_in _ oM;go_enter (qz func21),ntmps21;go_wp2;simp[bodyPost,results,results21,go_sem];exact ba
def XN(h:Kn l m ⟨dmb,[]⟩ cr p1 p2 30000 0 0 10 W)(j:p1≠p2)(a:W.heap[pw]?=ob #[pq l 0] 87)(f:aB.b0<=W.heap.size):
  Cq 15 #[pq pw 0,.agg (Od.cs ⟨1,2,0,7,((25000:Nat):Int),((1:Nat):Int),⟨#[]⟩,3⟩)] W fun e w'=>∃g k id lv s i,e=.rt (.tuple #[.agg (fM g k id lv s),i])/\((g=true/\k=21000/\id=0/\s=⟨#[]⟩/\i=.nilIface)/\ud l m ⟨dmb,[]⟩ cr p1 p2 w'/\aU [l,p1,p2,m,dmb] [262] W w'):=by
 have n:W.cell? ⟨pw,0,none⟩=some (pq l 0):=by rw[aJ a 0];rfl
 refine ye (Q:=fun g k id _ s i w=>(g=true/\k=21000/\id=0/\s=⟨#[]⟩/\i=.nilIface)/\ud l m ⟨dmb,[]⟩ cr p1 p2 w/\aU [l,p1,p2,m,dmb] [262] W w) n (aG a) (fun w d=>?_) f fun _ _ _ _ _ _ w w' ⟨K,⟨E,y,M,p3,C,o,D⟩,p⟩ H d=>⟨K,⟨E,y,M,p3,C,o.XV H dC,D⟩,p.HI d⟩
 apply(WL (h.below d) j (aAw f d.size)).mono;rintro e w' ⟨lv,rfl,A,h3⟩;obtain⟨R,u,v,b,_⟩:=h;have I:=b.cell0.1;have B:p1<W.heap.size:=aG (b.acc (1,p1,u) sI);have O:p2<W.heap.size:=aG (b.acc (2,p2,v) sI);have L:=b.map.lt;have N:dmb<W.heap.size:=b.iZ.lt;refine⟨_,_,_,lv,_,_,rfl,⟨⟨rfl,rfl,rfl,rfl,rfl⟩,A,(aU.aF d _ _).tr h3⟩,Kp.jA h3 (fun k F=>by simp at F;omega) dC dC,?_⟩;have t:=bk d a;have⟨S,J,_⟩:=b.lj.ex;obtain⟨T,Q,P⟩:∃q c,W.heap[m]?=some (.map q c):=let⟨q,c,G,_⟩:=b.map;⟨q,c,G⟩
 have⟨z,x⟩:=wV b.iZ;have r:w'.heap[pw]?=_:=h3.obj t (by show(87:Nat)∉[262];decide) (by simp only[aAx,aAC,or_false,not_or];exact⟨dP a J dC,dP a (b.acc (1,p1,u) sI) dC,dP a (b.acc (2,p2,v) sI) dC,dS a P (fun e=>by cases e),dS a x (fun e=>by cases e)⟩)
 simp only[World.cell?,r,a]
structure Bz (u v:WR):Prop extends Below aB.b0 u v where
 kz:∀(b:Nat) (e:Fh),e<1000->u.heap[b]?=some (.cells #[] e)->∃c f,v.heap[b]?=some (.cells c e f)
def Bz.grow(h:Bz u v)(d:aB.b0<=u.heap.size)(k:Bw v v'):Bz u v':=
 ⟨h.toBelow.tr ⟨k.os,k.tape,k.output,k.size,fun b j=>k.block b (by have:=h.size;omega)⟩,fun b e g i=>let⟨c,f,a⟩:=h.kz b e g i;⟨c,f,(k.block b (aAu.1 a).1).tr a⟩⟩
def Bz.drew(h:Bz u v):Bz u v.drew:=⟨h.toBelow.drew,h.kz⟩
def aU.bz{B:K4}{T:List Fh}(h:aU B T u v)(f:Below aB.b0 u v)(j:∀b∈B,∀e,u.heap[b]?≠some (.cells #[] e)):Bz u v:=by
 refine⟨f,fun b e _ a=>?_⟩;rcases h.block b (aAu.1 a).1 (fun i=>j b i e a) with d| ⟨t,c,k,_,_,d,g⟩
 .exact⟨_,_,d.tr a⟩
 .rw[a] at d;cases d;exact⟨_,_,g⟩
def PU{t:Fh}(h:w.heap[b]?=ob c t)(d:0<c.size)(e:Fh):w.heap[b]?≠some (.cells #[] e):=fun a=>by rw[h] at a;cases a;simp at d
def kx{es c}(h:w.heap[b]?=some (.map es c))(e:Fh):w.heap[b]?≠some (.cells #[] e):=fun a=>by rw[h] at a;cases a
def Eg(x7 x8 x9 a9:vZ)(h:Kn l m ⟨dmb,[]⟩ cr p1 p2 30000 0 0 10 u)(a3:p1≠p2)(D:u.heap[pw]?=ob #[pq l 0] 87)(q:aB.b0<=u.heap.size)(Ψ:vZ->K6)(N:∀v',Bz u v'->Ψ (.bool true) v'):
  wpOps zQ.prog fS (fun e a' v'=>e=.normal/\AI.wp zQ.prog (bodyPost zQ.prog Tryz.f12 fun e v'=>∃val,e=.returned val/\Ψ val v') a' v') [5,6,7,8,9] ⟨#[.bool false,uf,uf,uf,uf,uf,uf,x7,x8,x9,a9,.tuple #[pq pw 0,.nilIface],uf,uf,uf,uf,uf,uf,uf,uf,uf,uf,uf,uf,uf,uf,uf,uf,uf,uf,uf,uf,uf,uf,uf,uf,uf,uf,uf,uf]++#[uf,uf,uf,uf,uf,uf,uf,uf,uf,uf,uf,uf,uf,uf,uf,uf,uf,uf,uf,uf,uf,uf,uf,uf,uf,uf,uf,uf,uf,uf,uf,uf,uf,uf,uf,uf],[]⟩ u:=by
 simp only[aBZ,aBi,aBW];obtain⟨fn,F⟩:∃fn,fn=Tryz.f12:=⟨_,rfl⟩;have S:fn.results=#[ResultVar.tmp 0]:=by rw[F];exact Tryz.results12
 rw[<-F];clear F;obtain⟨lo,A⟩:∃l,l=fS.toList.drop 5:=⟨_,rfl⟩;have r:=A;simp only[fS,Tryz.f12,aCX,aCE] at r;refine AE lo 5 5 (by rw[r];rfl) (fun j=>by rw[A];simp) ?_;rw[r];dsimp only[AI,fS,Tryz.f12];clear r A lo;have W:Cq 21 #[vI 7] u _:=kv 7 dC u;go_wp2_with fail;refine W.mono ?_;rintro e w1 ⟨rfl,n⟩;clear W;have t:=XN (h.below n) a3 (bk n D) (aAw q n.size);unfold Od.cs at t;have Y:((25000:Nat):Int)=25000:=rfl;have Z:((1:Nat):Int)=1:=rfl;rw[Y,Z] at t;unfold wd;go_wp2_with fail;refine t.mono ?_;rintro e w2 ⟨_,_,_,lv,_,_,rfl,⟨⟨rfl,rfl,rfl,rfl,rfl⟩,aa,v⟩⟩;clear t;have Q:fM true 21000 0 lv ⟨#[]⟩=#[.bool true,vI 21000,vI 0,.slice lv.a lv.n lv.c,.string ⟨#[]⟩]:=rfl;rw[Q];clear Q Y Z;have s:Bw w2 (w2.alloc (.cells #[.bool true,vI 21000,vI 0,.slice lv.a lv.n lv.c,.string ⟨#[]⟩] 34)):=ba;have C:=aM w2 (.cells #[.bool true,vI 21000,vI 0,.slice lv.a lv.n lv.c,.string ⟨#[]⟩] 34);obtain⟨J9,b1,b2,p3,b3,O,a7⟩:=aa;have y:=O.below s;have x:ud l m ⟨dmb,[]⟩ cr p1 p2 (w2.alloc (.cells #[.bool true,vI 21000,vI 0,.slice lv.a lv.n lv.c,.string ⟨#[]⟩] 34)):=⟨J9,b1,b2,p3,b3,y,a7⟩;have M:w2.heap[pw]?=ob #[pq l 0] 87:=by
  obtain⟨J0,a1,a2,E,_⟩:=h;have p:=bk n D;have o:=E.below n;obtain⟨jv,T,_⟩:=o.lj.ex;obtain⟨em,cm,hm⟩:∃B c,w1.heap[m]?=some (.map B c):=let⟨B,c,X,_⟩:=o.map;⟨B,c,X⟩
  obtain⟨a0,hd⟩:=wV o.iZ;refine v.obj p (by show(87:Nat)∉[262];decide) ?_;simp only[aAx,aAC,or_false,not_or];exact⟨dP p T dC,dP p (o.acc (1,p1,a1) sI) dC,dP p (o.acc (2,p2,a2) sI) dC,dS p hm (fun e=>by cases e),dS p hd (fun e=>by cases e)⟩
 have H:=iu x ((aJ (bk s M) 0).trans rfl);have P:Bz u w2:=by
  obtain⟨J0,a1,a2,E,_⟩:=h;have o:=E.below n;have Z:Below aB.b0 u w1:=⟨n.os,n.tape,n.output,n.size,fun k hk=>n.block k oM⟩;have e2:=v.low (fun k hk=>by have X:=(E.lo (1,p1,a1) sI).1;have h2:=(E.lo (2,p2,a2) sI).1;have h3:=E.wT;have h4:=E.lj.lo;simp only[aAx,aAC,or_false] at hk;simp only at X h2 h3;exact oM) (aAw q n.size)
  have e3:=v.bz e2 (fun b hb=>by
   obtain⟨jv,T,_⟩:=o.lj.ex;obtain⟨em,cm,hm⟩:∃B c,w1.heap[m]?=some (.map B c):=let⟨B,c,X,_⟩:=o.map;⟨B,c,X⟩
   obtain⟨a0,hd⟩:=wV o.iZ;simp only[aAx,aAC,or_false] at hb;rcases hb with rfl|rfl|rfl|rfl|rfl
   .exact PU T sI
   .exact PU (o.acc (1,b,a1) sI) (by simp[cG])
   .exact PU (o.acc (2,b,a2) sI) (by simp[cG])
   .exact kx hm
   .exact kx hd)
  exact⟨Z.trans e2,fun b e T he=>e3.kz b e T ((n.block b (aAu.1 he).1).trans he)⟩
 clear h v x y O D n;go_wp2_with fail;change Calls _ _ _ (w2.alloc (.cells #[.bool true,vI 21000,vI 0,.slice lv.a lv.n lv.c,.string ⟨#[]⟩] 34)) _;generalize ac:w2.alloc (.cells #[.bool true,.int .i64 21000,.int .i64 0,.slice lv.a lv.n lv.c,.string ⟨#[]⟩] 34)=w3 at s C H⊢;refine H.mono ?_;rintro e w4 ⟨g,cap,a5,rfl,I,hg,a,a4,ad⟩;clear H;have G:=bk I C;have a8:=aG G;generalize w2.heap.size=rb at G a8⊢;have w:Bz u w4:=(P.grow q s).grow q I;have a6:aB.b0<=w4.heap.size:=aAw q w.size;clear C s I P ac;have al:=aG hg;go_wp2_with fail;refine rq (fun V=>V.heap[rb]?=ob #[.bool true,vI 21000,vI 0,.slice lv.a lv.n lv.c,.string ⟨#[]⟩] 34/\V.heap[g]?=ob a5 52/\Bz u V) ⟨G,hg,w.drew⟩ fun d=>?_;refine t4 0 1 2 3 d ?_;refine tV 4 (fun _ f=>bq f.1 0) d ?_;refine t3 5 6 7 d ?_;refine tV 8 (fun _ f=>bq f.1 1) d ?_;refine t6 9 10 11 12 13 14 d ?_;refine t5 15 16 17 18 19 d ?_;refine tD 20 49 (wd 8993) (fun V f=>?_) d ?_
 .have J:=(aJ f.2.1 (1+0)).trans (a 0 oM).1;have k1:=(aJ f.2.1 (1+1)).trans (a 1 oM).1;have L:=(aJ f.2.1 (1+2)).trans (a 2 oM).1;have R:=(aJ f.2.1 (1+3)).trans (a 3 oM).1;simp only[Nat.reduceAdd,aBd] at J k1 L R;clear f d a;go_simp
 refine rA 21 fun K z=>?_;go_simp;refine Calls.mono (show Cq 21 #[vI 8993] _ _ from kv 8993 dC _) ?_;rintro e V1 ⟨rfl,i⟩;go_wp2_with fail;refine z.out _ _ ⟨bk i d.1,bk i d.2.1,d.2.2.grow q i⟩ fun d=>?_;clear z K i;refine tD 22 51 (.bool true) (fun V f=>?_) d ?_
 .have heq:=AF 8993 dC V;clear f d a;unfold wd at heq
  (try unfold wd)
  go_simp
 refine t5 23 24 25 26 27 d ?_;refine tD 28 57 (wd 7) (fun V f=>?_) d ?_
 .have J:=(aJ f.2.1 (9+0)).trans (a 0 oM).2.1;have k1:=(aJ f.2.1 (9+1)).trans (a 1 oM).2.1;have L:=(aJ f.2.1 (9+2)).trans (a 2 oM).2.1;have R:=(aJ f.2.1 (9+3)).trans (a 3 oM).2.1;simp only[Nat.reduceAdd,aBd] at J k1 L R;clear f d a;go_simp
 refine rA 29 fun K z=>?_;go_simp;refine Calls.mono (show Cq 21 #[vI 7] _ _ from kv 7 dC _) ?_;rintro e V1 ⟨rfl,i⟩;go_wp2_with fail;refine z.out _ _ ⟨bk i d.1,bk i d.2.1,d.2.2.grow q i⟩ fun d=>?_;clear z K i;refine tD 30 59 (.bool true) (fun V f=>?_) d ?_
 .have heq:=AF 7 dC V;clear f d a;unfold wd at heq
  (try unfold wd)
  go_simp
 refine t5 31 32 33 34 35 d ?_;refine tD 36 65 (wd 21000) (fun V f=>?_) d ?_
 .have J:=(aJ f.2.1 (17+0)).trans (a 0 oM).2.2;have k1:=(aJ f.2.1 (17+1)).trans (a 1 oM).2.2;have L:=(aJ f.2.1 (17+2)).trans (a 2 oM).2.2;have R:=(aJ f.2.1 (17+3)).trans (a 3 oM).2.2;simp only[Nat.reduceAdd,aBd] at J k1 L R;clear f d a;go_simp
 refine rA 37 fun K z=>?_;go_simp;refine Calls.mono (show Cq 21 #[vI 21000] _ _ from kv 21000 dC _) ?_;rintro e V1 ⟨rfl,i⟩;go_wp2_with fail;refine z.out _ _ ⟨bk i d.1,bk i d.2.1,d.2.2.grow q i⟩ fun d=>?_;clear z K i;refine tD 38 67 (.bool true) (fun V f=>?_) d ?_
 .have heq:=AF 21000 dC V;clear f d a;unfold wd at heq
  (try unfold wd)
  go_simp
 refine t5 39 40 41 42 43 d ?_;refine tD 44 73 (vI 1) (fun V f=>?_) d ?_
 .have J:=(aJ f.2.1 5).trans a4;clear f d a;go_simp
 refine t3 45 46 47 d ?_;refine dn ?_;have U:=N _ d.2.2;clear N a;go_wp2;simp[bodyPost,results,S,go_sem];exact U
end
section
open Go.Conc Go.Walk Go.Phase Go.Conc.Lib Go.ConcR.Gen Go.ConcN.Gen Go.Lift
theorem EG{P:K5}{ops:DQ}{Φ:Fi}{l2:K4}:∀(l:K4) (a:Act) (w:WR),wpOps P ops (fun e a' w'=>e=.normal/\Φ a' w') l a w->∀(b:Frame) (k:List Item) (cs:eX),∃a' w',Φ a' w'/\Steps P (lone (b.at a (.inRegion ops (l++l2)::k)) cs w) (lone (b.at a' (.inRegion ops l2::k)) cs w')
 | [],a,w,h,_,_,_=>⟨a,w,h.2,Steps.refl _ _⟩
 |i::rest,a,w,h,b,k,cs=>by
  have ih:=EG (P:=P) (ops:=ops) (Φ:=Φ) (l2:=l2) rest;rw[List.cons_append];simp only[wpOps] at h;cases ho:ops[i]? with
  |none=>
   simp only[ho] at h;obtain⟨a',w',hq,hs'⟩:=ih a w h b k cs;have hs:=step_op_skip (P:=P) (b:=b) (a:=a) (k:=k) (cs:=cs) (w:=w) (ops:=ops) (i:=i) (rest:=rest++l2) (by simp[ho]);simp only[ho,Option.bind_none,Act.put] at hs;exact⟨a',w',hq,(Steps.one hs).trans hs'⟩
  |some o=>
   simp only[ho] at h;by_cases hw:Region.wanted o (yielded ops a.tmps)=true
   .simp only[hw,if_true] at h;rcases h with h| ⟨_,_,_,hq,_⟩;case inr=>cases hq
    simp only[Oper.wp,Oper.upon] at h;have hg:=stepG_op (P:=P) (b:=b) (k:=k) (cs:=cs) (w:=w) (rest:=rest++l2) ho hw;have hfin:∀v,(b.at a (.inRegion ops (i::(rest++l2))::k)).finish v=b.at (a.put o.dst v) (.inRegion ops (rest++l2)::k):=by
     intro v;rw[Frame.finish_at,ho];rfl
    split at h
    .rename_i v w' hr;obtain⟨a',w'',hq,hs'⟩:=ih _ _ h b k cs;refine⟨a',w'',hq,(Steps.one (step_lone_go ?_)).trans hs'⟩;rw[hg,<-hfin];simp[stepG.apply,hr]
    .rename_i w' hr;obtain⟨a',w'',hq,hs'⟩:=ih _ _ h b k cs;refine⟨a',w'',hq,(Steps.one (step_lone_go ?_)).trans hs'⟩;rw[hg,<-hfin];simp[stepG.apply,hr]
    .rename_i d w' hr;obtain⟨a',w'',hq,hs'⟩:=ih _ _ h b k cs;refine⟨a',w'',hq,(Steps.one (step_lone_go ?_)).trans hs'⟩;have:({b.at a (.inRegion ops (i::(rest++l2))::k) with defers:=d::a.defers}:Frame).finish undef=
       b.at ({a with defers:=d::a.defers}.put o.dst undef) (.inRegion ops (rest++l2)::k):=by
      have:=Frame.finish_at b {a with defers:=d::a.defers} ops i (rest++l2) k undef;rw[ho] at this;exact this
     rw[hg];simp only[stepG.apply,Sem.runT_eq,hr,GStep.bare_after];exact congrArg (fun fr=>GStep.go {frame:=fr,callers:=cs,status:=.running,dying:=none} w') this
    .rename_i f args w' hr;obtain⟨e,w'',fr,hR,hsteps,_,hleave⟩:=h (b.at a (.inRegion ops (i::(rest++l2))::k)::cs);have henter:step P (lone (b.at a (.inRegion ops (i::(rest++l2))::k)) cs w)=
       .next (lone (Frame.enter P f args .normal) (b.at a (.inRegion ops (i::(rest++l2))::k)::cs) w'):=
      step_lone_go (by rw[hg];simp[stepG.apply,hr,Frame.at])
     cases e with
     |returned v=>
      obtain⟨a',w₃,hq,hs'⟩:=ih _ _ hR b k cs;refine⟨a',w₃,hq,(Steps.head henter (hsteps.trans (.one ?_))).trans hs'⟩;rw[<-hfin];exact step_leave_returned hleave
     |panicked chain=>cases hR.1
     |outgrown=>
      obtain⟨_,_,hq,_⟩:=hR;cases hq
    .rename_i row args w' hr;obtain⟨v,w'',hR,hsteps⟩:=h (b.at a (.inRegion ops (i::(rest++l2))::k)) cs;have henter:step P (lone (b.at a (.inRegion ops (i::(rest++l2))::k)) cs w)=
       .next (lone (Frame.ofRow P row args .normal) (b.at a (.inRegion ops (i::(rest++l2))::k)::cs) w'):=
      step_lone_go (by rw[hg];simp[stepG.apply,hr,Frame.at])
     obtain⟨a',w₃,hq,hs'⟩:=ih _ _ hR b k cs;refine⟨a',w₃,hq,(Steps.head henter ?_).trans hs'⟩;rw[<-hfin];exact hsteps
    .cases h.1
    .exact h.elim
   .simp only[hw,if_false,Bool.false_eq_true] at h;obtain⟨a',w',hq,hs'⟩:=ih _ _ h b k cs;have hs:=step_op_skip (P:=P) (b:=b) (a:=a) (k:=k) (cs:=cs) (w:=w) (ops:=ops) (i:=i) (rest:=rest++l2)
     (by simp[ho];simpa using hw)
    simp only[ho,Option.bind_some] at hs;exact⟨a',w',hq,(Steps.one hs).trans hs'⟩
def lq{D:Nat->Prop}{l:K4}{b:Frame}{Φ:Fi}(s:b.kind=.normal)(C:a.defers=[])(u:jS Tryz.prog ops=true)(t:∀x∈k,dY Tryz.prog x=true)(j:∃v,Rel (cM D) w v)(o:∀v,Rel (cM D) w v->wpOps zQ.prog ops (fun e c v'=>e=.normal/\c.defers=[]/\Φ c v') l a v):
  nR Tryz.prog (kY (cM D)) (fun g w'=>∃c v',g=G (b.at c (.inRegion ops l2::k)) cw/\Rel (cM D) w' v'/\pY w w' v'/\c.defers=[]/\Φ c v') (G (b.at a (.inRegion ops (l++l2)::k)) cw) w:=by
 have q:∀c:Act,c.defers=[]->∀l,dK prog (b.at c (.inRegion ops l::k)):=fun c p l=>jJ s p (fun x m=>by rcases aAx.1 m with rfl|m;exact u;exact t x m);refine mD ?_ (lift (fair D) (cw:=cw) (S:=fun fr h v=>∃c,fr=b.at c (.inRegion ops l2::k)/\h=[]/\c.defers=[]/\Φ c v) (fr:=b.at a (.inRegion ops (l++l2)::k)) (frs:=[]) (w:=w)
  (q a C _) (fun f y=>by simp at y) j (fun v B=>?_))
 .rintro g w' ⟨fr,h,v,rfl,z,A,c,rfl,rfl,i,d⟩;exact⟨c,v,rfl,z,A,i,d⟩
 .have⟨c,v',⟨i,d⟩,n,r⟩:=EG (l2:=l2) l a v (o v B) b k [dJ FQ.size];rw[Ra] at r;exact⟨n,b.at c (.inRegion ops l2::k),[],v',r,q c i _,c,rfl,rfl,i,d⟩
def chain:List Code->Code->Code
 | [],c=>c
 |d::l,c=>.seq d (chain l c)
def kV(P:K5)(Q:Fi):List Code->Fi
 | [],a,w=>Q a w
 |d::l,a,w=>d.wp P (fun e b w'=>e=.normal/\kV P Q l b w') a w
theorem wD{P:K5}{j:Fi}(c:Code):∀(l:List Code) (a:Act) (w:WR),kV P j l a w->∀(b:Frame) (k:List Item) (cs:eX),∃f w',j f w'/\Steps P (lone (b.at a (.code (chain l c)::k)) cs w) (lone (b.at f (.code c::k)) cs w')
 | [],a,w,h,_,_,_=>⟨a,w,h,Steps.refl _ _⟩
 |d::l,a,w,h,b,k,cs=>by
  obtain⟨e,o,w1,⟨rfl,m⟩,n⟩:=h b (.code (chain l c)::k) cs;obtain⟨f,w',g,i⟩:=wD c l o w1 m b k cs;exact⟨f,w',g,(Steps.head step_seq n).trans i⟩
def qW{D:Nat->Prop}{l:List Code}{c:Code}{b:Frame}{Φ:Fi}(q:b.kind=.normal)(A:a.defers=[])(B:bQ Tryz.prog (chain l c)=true)(m:bQ Tryz.prog c=true)(r:∀x∈k,dY Tryz.prog x=true)(o:∃v,Rel (cM D) w v)(p:∀v,Rel (cM D) w v->kV zQ.prog (fun d v'=>d.defers=[]/\Φ d v') l a v):
  nR Tryz.prog (kY (cM D)) (fun g w'=>∃d v',g=G (b.at d (.code c::k)) cw/\Rel (cM D) w' v'/\pY w w' v'/\d.defers=[]/\Φ d v') (G (b.at a (.code (chain l c)::k)) cw) w:=by
 refine mD ?_ (lift (fair D) (cw:=cw) (S:=fun fr h v=>∃d,fr=b.at d (.code c::k)/\h=[]/\d.defers=[]/\Φ d v) (fr:=b.at a (.code (chain l c)::k)) (frs:=[]) (w:=w)
  (jJ q A (fun x i=>by rcases aAx.1 i with rfl|i;exact B;exact r x i)) (fun f t=>by simp at t) o (fun v z=>?_))
 .rintro g w' ⟨fr,h,v,rfl,u,y,d,rfl,rfl,j,e⟩;exact⟨d,v,rfl,u,y,j,e⟩
 .have⟨d,v',⟨j,e⟩,n,s⟩:=wD c l a v (p v z) b k [dJ FQ.size];rw[Ra] at s;exact⟨n,b.at d (.code c::k),[],v',s,jJ q j (fun x i=>by rcases aAx.1 i with rfl|i;exact m;exact r x i),d,rfl,rfl,j,e⟩
end
section
open Go.Conc Go.Walk Go.Phase Go.Conc.Lib Go.ConcR.Gen Go.ConcN.Gen Go.Lift
open Go.ConcN (WgLive Has RW DWs AtR0 PayAt)
open Go.ConcR (KK WgAt stA smA rd wr mk Payload)
section
def Oj:cO prog true AtRel kD (fun g w=>g=G ((base 12).at ⟨#[.bool false,uf,uf,uf,uf,uf,uf,uf,uf,uf,uf,uf,uf,uf,uf,uf,uf,uf,uf,uf,uf,uf,uf,uf,uf,uf,uf,uf,uf,uf,uf,uf,uf,uf,uf,uf,uf,uf,uf,uf]++#[uf,uf,uf,uf,uf,uf,uf,uf,uf,uf,uf,uf,uf,uf,uf,uf,uf,uf,uf,uf,uf,uf,uf,uf,uf,uf,uf,uf,uf,uf,uf,uf,uf,uf,uf,uf],[]⟩ (.inRegion fS ([0,1,2,3]++[4,5,6,7,8,9])::[.code AI])) cs/\w.heap=h0) (fun w=>w.heap=h0) 40
  (G ((base 12).at ⟨Array.replicate 76 uf,[]⟩ [.code (f12.body.getD .skip)]) cs):=by
 have E:=nK h0;obtain⟨h,b⟩:∃c,c=AI:=⟨_,rfl⟩;have a:=b;simp only[AI,f12] at a;rw[<-b];simp only[fS,f12,aAK];rw[<-a];clear b a
 walk_nrm
 refine bU E ?_;refine bD E ?_;refine bV E rfl rfl sQ2 fun w f K d=>?_;go_simp;refine d _ sQ1 ?_;clear d K f w;refine aP E ?_;refine bU E ?_;refine gW E ?_;exact cD E fun w e=>⟨rfl,e⟩
def Ol:cO prog true AtRel kD (fun g w=>g=G ((base 16).at ⟨#[.sl (some (ad b 0)) 2 2]++Array.replicate 12 uf,[]⟩ [.code (f16.body.getD .skip)]) (((base 12).at ⟨#[.bool false,uf,uf,uf,uf,uf,uf,x7,x8,x9,.sl (some (ad b 0)) 2 2,uf,uf,uf,uf,uf,uf,uf,uf,uf,uf,uf,uf,uf,uf,uf,uf,uf,uf,uf,uf,uf,uf,uf,uf,uf,uf,uf,uf,uf]++#[uf,uf,uf,uf,uf,uf,uf,uf,uf,uf,uf,uf,uf,uf,uf,uf,uf,uf,uf,uf,uf,uf,uf,uf,uf,uf,uf,uf,uf,uf,uf,uf,uf,uf,uf,uf],[]⟩ (.inRegion fS [4,5,6,7,8,9]::[.code AI]))::cs)/\w.heap=h0) (fun w=>w.heap=h0) 40
  (G ((base 12).at ⟨#[.bool false,uf,uf,uf,uf,uf,uf,x7,x8,x9,.sl (some (ad b 0)) 2 2,uf,uf,uf,uf,uf,uf,uf,uf,uf,uf,uf,uf,uf,uf,uf,uf,uf,uf,uf,uf,uf,uf,uf,uf,uf,uf,uf,uf,uf]++#[uf,uf,uf,uf,uf,uf,uf,uf,uf,uf,uf,uf,uf,uf,uf,uf,uf,uf,uf,uf,uf,uf,uf,uf,uf,uf,uf,uf,uf,uf,uf,uf,uf,uf,uf,uf],[]⟩ (.inRegion fS [4,5,6,7,8,9]::[.code AI])) cs):=by
 have E:=nK h0;obtain⟨j,f⟩:∃c,c=AI:=⟨_,rfl⟩;obtain⟨i,d⟩:∃c,c=f16.body.getD .skip:=⟨_,rfl⟩;rw[<-f,<-d];simp only[fS,f12]
 walk_nrm
 have e:(f16.name== "runtime.NumGoroutine")=false:=kR
 have a:Tryz.f16.body=some i:=by rw[d];kernel_rfl
 refine eY E rfl rfl sQ2 rfl func16 e a ?_;rw[ntmps16];clear e a d f
 walk_nrm
 exact cD E fun w h=>⟨rfl,h⟩
variable [aB]
theorem EH{P:K5}{ops:DQ}{Q:Fg}:∀(l:List Oper) (k:Nat),(∀j,j<l.length->l[j]?=ops[k+j]?)->wpOps P ops Q (List.range' k l.length)=wpList P ops Q l
 | [],k,_=>by funext a w;simp[wpOps,wpList]
 |o::l,k,h=>by
  have h0:ops[k]?=some o:=by simpa using(h 0 sI).symm
  have b:=EH (P:=P) (ops:=ops) (Q:=Q) l (k+1) (fun j c=>by have:=h (j+1) (by simpa using c);simpa[Nat.add_assoc,Nat.add_comm 1 j] using this);funext a w;simp only[List.length_cons,List.range'_succ,wpOps,h0,wpList,b]
def LV{Q:Fg}(l:List Oper)(n:Nat)(d:l.length=n)(b:∀j,j<l.length->l[j]?=ops[j]?)(h:wpList P ops Q l a w):wpOps P ops Q (List.range' 0 n) a w:=by rw[<-d,EH l 0 (fun j c=>by rw[aAM];exact b j c)];exact h
def AG(d1 d2:bF):Ff:=(aV d1 ⟨none,0,0⟩++aV d2 ⟨none,0,0⟩).toArray
def lr(h:v.heap[b]?=ob (AG d1 d2) 52)(g:d1.bE=[])(f:d2.bE=[])(k:d1.cn<M)(l:d2.cn<M):uE v (some ⟨b,0,none⟩) [(d1,⟨none,0,0⟩),(d2,⟨none,0,0⟩)]:=by
 refine⟨.inr ⟨b,0,rfl,fun i p a=>?_⟩,fun p a=>?_,fun p a=>?_,fun p a=>?_,fun p a q c=>?_,sI⟩
 .rw[aAM];rcases i with _|_|i
  .simp only[aAP,aAF] at a;subst a;intro j x d;rw[aCy,aAM,aJ h j];unfold AG;rw[aAY,aBI (aAO.1 d).1];exact d
  .simp only[aAM,aBb,aAP,aAF] at a;subst a;intro j x d;rw[aJ h];unfold AG;rw[aAY,aBn (by simp[aV])];have e:(0+1)*8+j - (aV d1 ⟨none,0,0⟩).length=j:=by simp[aV]
   rw[e];exact d
  .simp at a
 .simp only[aAx,aAC,or_false] at a;rcases a with rfl|rfl
  .exact⟨by simp[g],.inl g⟩
  .exact⟨by simp[f],.inl f⟩
 .simp only[aAx,aAC,or_false] at a;rcases a with rfl|rfl
  .exact k
  .exact l
 .simp only[aAx,aAC,or_false] at a;rcases a with rfl|rfl
  .simp[g]
  .simp[f]
 .simp only[aAx,aAC,or_false] at a;rcases a with rfl|rfl
  .rw[g] at c;cases c
  .rw[f] at c;cases c
attribute [local go_sem] wd
abbrev LW:bF:=⟨1,30000,0,⟨#[]⟩,[]⟩
abbrev LX:bF:=⟨2,0,0,⟨#[]⟩,[]⟩
def Jx(u:WR)(k:Fi)(c:∀x7 x8 x9 b v',Below u.heap.size u v'->u.heap.size<=b->v'.heap[b]?=ob (AG LW LX) 52->k ⟨#[.bool false,undef,undef,undef,undef,undef,undef,x7,x8,x9,.slice (some ⟨b,0,none⟩) 2 2,undef,undef,undef,undef,undef,undef,undef,undef,undef,undef,undef,undef,undef,undef,undef,undef,undef,undef,undef,undef,undef,undef,undef,undef,undef,undef,undef,undef,undef]++#[undef,undef,undef,undef,undef,undef,undef,undef,undef,undef,undef,undef,undef,undef,undef,undef,undef,undef,undef,undef,undef,undef,undef,undef,undef,undef,undef,undef,undef,undef,undef,undef,undef,undef,undef,undef],[]⟩ v'):
  wpOps zQ.prog fS (fun e i v'=>e=.normal/\i.defers=[]/\k i v') [0,1,2,3] ⟨#[.bool false,undef,undef,undef,undef,undef,undef,undef,undef,undef,undef,undef,undef,undef,undef,undef,undef,undef,undef,undef,undef,undef,undef,undef,undef,undef,undef,undef,undef,undef,undef,undef,undef,undef,undef,undef,undef,undef,undef,undef]++#[undef,undef,undef,undef,undef,undef,undef,undef,undef,undef,undef,undef,undef,undef,undef,undef,undef,undef,undef,undef,undef,undef,undef,undef,undef,undef,undef,undef,undef,undef,undef,undef,undef,undef,undef,undef],[]⟩ u:=by
 simp only[aBZ,aBi,aBW] at c⊢;obtain⟨n,d⟩:∃l,l=fS.toList.take 4:=⟨_,rfl⟩;have a:=d;simp only[fS,f12,List.take_succ_cons,List.take_zero] at a;refine LV n 4 (by rw[a];rfl) (fun j m=>by rw[d,aCg (by rw[a] at m;simpa using m)];simp) ?_;rw[a];dsimp only[fS,f12];clear a d n;have h:Cq 21 #[vI 30000] u _:=kv 30000 dC u;have g:=US c;clear c;go_wp2_with fail;apply h.mono;rintro e w1 ⟨rfl,f⟩;clear h;unfold wd;go_wp2_with fail;have e:AG LW LX=#[vI 1,vL 30000 0,vL 30000 1,vL 30000 2,vL 30000 3,vI 0,.string ⟨#[]⟩,.sl none 0 0,vI 2,vU 0,vU 0,vU 0,vU 0,vI 0,.string ⟨#[]⟩,.sl none 0 0]:=by simp[AG,aV,UT]
 exact g.out _ _ _ w1.heap.size _ (f.tr (bR.aL lR _|>.mono f.size)) f.size (by rw[e];exact aM w1 _)
def kE{B:Nat}{D:Nat->Prop}(s:Dk B D w)(l:Rel (cM D) w u)(n:Rel (cM D) w' v')(t:pY w w' v')(J:B<=w.heap.size)(m:Below B u v')(E:∀(b:Nat) (e:Fh),e<1000->u.heap[b]?=some (.cells #[] e)->∃c f,v'.heap[b]?=some (.cells c e f)):SO B D w w' v':=by
 have z:∀b,b<B->w'.heap[b]?=w.heap[b]?:=fun b p=>by
  have lY:∀o,v'.heap[b]?=some o->¬QD o->¬D b:=fun o j a d=>by
   rcases ki s l b d with⟨i,_⟩| ⟨_,i⟩
   .omega
   .rw[<-m.block b p,j] at i;cases i;exact a (.inr rfl)
  cases j:v'.heap[b]? with
  |none=>
   have:=aCc.1 j;have:=l.size;have:=m.size;omega
  |some o=>
   by_cases a:QD o
   .exact t b o j a oM
   .have r:=lY o j a;have k:=n.look b;have h:=l.look b;rw[<-m.block b p] at h;rw[j] at k h;generalize w'.heap[b]?=x at k⊢;generalize w.heap[b]?=y at h⊢;cases k with
    |gP d=>exact absurd d r
    |shut d=>exact absurd d r
    |view _ g=>exact absurd (Or.inl (by cases o<;>first|exact g.elim|trivial)) a
    |same _=>
     cases h with
     |gP d=>exact absurd d r
     |shut d=>exact absurd d r
     |view _ g=>exact absurd (Or.inl (by cases o<;>first|exact g.elim|trivial)) a
     |same _=>rfl
 refine⟨n,fun b d=>?_,z,⟨by rw[<-n.os,m.os,l.os],by rw[<-n.out,m.output,l.out]⟩,by rw[<-n.size,<-l.size];exact m.size⟩;rcases s b d with⟨i,c,e,A,H⟩| ⟨i,o,v,h3,h4⟩
 .rcases ki s l b d with⟨_,C,q,F⟩| ⟨v,_⟩
  .refine .inl ⟨i,?_⟩;have⟨G,I,j⟩:=E b C q F;have k:=n.look b;rw[j] at k;generalize w'.heap[b]?=x at k;cases k with
   |gP _=>exact⟨_,_,q,rfl⟩
   |view _ g=>exact g.elim
   |same t=>exact absurd trivial ((t _ rfl).2 d)
  .omega
 .exact .inr ⟨i,o,(z b i).tr v,h3,h4⟩
def vu:gM ([(LW,(⟨none,0,0⟩:SV)),(LX,⟨none,0,0⟩)].map (·.1)):=by refine⟨sI,fun d a=>?_,sI,by simp[M]⟩;simp only[aBl,aCC,aAx,aAC,or_false] at a;rcases a with rfl|rfl<;>simp[iD,ByteArray.size]
def lu{o n:SV}(h:wC W pl [(d1,o),(d2,n)] L):
  ∃m dmb p1 c g p2 b f,L=[oK d1 ⟨some ⟨g,0,none⟩,d1.code.size,d1.code.size⟩ p1 c,oK d2 ⟨some ⟨f,0,none⟩,d2.code.size,d2.code.size⟩ p2 b]/\LG W pl m ⟨dmb,[]⟩ 0 L []/\p1≠p2/\W.heap[f]?=ob (marks d2.code d2.code.size 0 (fI d2.code.size)) 4:=by
 obtain⟨⟨m,dmb,j⟩,d,a⟩:=h;have⟨p1,c,g,l,_⟩:=a 0 d1 rfl;have⟨p2,b,f,k,i⟩:=a 1 d2 rfl;match L,d with
 | [p,q],_=>
  simp only[aAP,aBb,aAF] at l k;subst l k;refine⟨m,dmb,p1,c,g,p2,b,f,rfl,j,fun e=>?_,i⟩;have:=j.AJ;simp[oK,e] at this
def Er:Ff:=#[.bool false,undef,undef,undef,undef,undef,undef,undef,undef,undef,undef,undef,undef,undef,undef,undef,undef,undef,undef,undef,undef,undef,undef,undef,undef,undef,undef,undef,undef,undef,undef,undef,undef,undef,undef,undef,undef,undef,undef,undef]++#[undef,undef,undef,undef,undef,undef,undef,undef,undef,undef,undef,undef,undef,undef,undef,undef,undef,undef,undef,undef,undef,undef,undef,undef,undef,undef,undef,undef,undef,undef,undef,undef,undef,undef,undef,undef]
def XO(x7 x8 x9:vZ)(b:Nat):Ff:=#[.bool false,undef,undef,undef,undef,undef,undef,x7,x8,x9,.slice (some ⟨b,0,none⟩) 2 2,undef,undef,undef,undef,undef,undef,undef,undef,undef,undef,undef,undef,undef,undef,undef,undef,undef,undef,undef,undef,undef,undef,undef,undef,undef,undef,undef,undef,undef]++#[undef,undef,undef,undef,undef,undef,undef,undef,undef,undef,undef,undef,undef,undef,undef,undef,undef,undef,undef,undef,undef,undef,undef,undef,undef,undef,undef,undef,undef,undef,undef,undef,undef,undef,undef,undef]
def Es(x7 x8 x9:vZ)(b pw:Nat):Ff:=#[.bool false,undef,undef,undef,undef,undef,undef,x7,x8,x9,.slice (some ⟨b,0,none⟩) 2 2,.tuple #[pq pw 0,.nilIface],undef,undef,undef,undef,undef,undef,undef,undef,undef,undef,undef,undef,undef,undef,undef,undef,undef,undef,undef,undef,undef,undef,undef,undef,undef,undef,undef,undef]++#[undef,undef,undef,undef,undef,undef,undef,undef,undef,undef,undef,undef,undef,undef,undef,undef,undef,undef,undef,undef,undef,undef,undef,undef,undef,undef,undef,undef,undef,undef,undef,undef,undef,undef,undef,undef]
def Jy:cO prog true AtRel kD (fun g w=>g=G ((base 12).at ⟨Er,[]⟩ (.inRegion fS ([0,1,2,3]++[4,5,6,7,8,9])::[.code AI])) cs/\w.heap=h0) (fun w=>w.heap=h0) 40
 (G ((base 12).at ⟨Array.replicate 76 uf,[]⟩ [.code (f12.body.getD .skip)]) cs):=Oj
def Jz:cO prog true AtRel kD (fun g w=>g=G ((base 16).at ⟨#[.sl (some (ad b 0)) 2 2]++Array.replicate 12 uf,[]⟩ [.code (f16.body.getD .skip)]) (((base 12).at ⟨XO x7 x8 x9 b,[]⟩ (.inRegion fS [4,5,6,7,8,9]::[.code AI]))::cs)/\w.heap=h0) (fun w=>w.heap=h0) 40
 (G ((base 12).at ⟨XO x7 x8 x9 b,[]⟩ (.inRegion fS [4,5,6,7,8,9]::[.code AI])) cs):=Ol
def Et(u:WR)(a:Fi)(c:∀x7 x8 x9 b v',Below u.heap.size u v'->u.heap.size<=b->v'.heap[b]?=ob (AG LW LX) 52->a ⟨XO x7 x8 x9 b,[]⟩ v'):
 wpOps zQ.prog fS (fun e d v'=>e=.normal/\d.defers=[]/\a d v') [0,1,2,3] ⟨Er,[]⟩ u:=Jx u a c
def J3:after (base 12) ⟨XO x7 x8 x9 b,[]⟩ fS 4 [5,6,7,8,9] [.code AI] (.tuple #[pq pw 0,.nilIface])=(base 12).at ⟨Es x7 x8 x9 b pw,[]⟩ (.inRegion fS [5,6,7,8,9]::[.code AI]):=kR
def vx(x7 x8 x9:vZ)(h:Kn l m ⟨dmb,[]⟩ cr p1 p2 30000 0 0 10 u)(d:p1≠p2)(g:u.heap[pw]?=ob #[pq l 0] 87)(c:aB.b0<=u.heap.size)(a:vZ->K6)(f:∀v',Bz u v'->a (.bool true) v'):
 wpOps zQ.prog fS (fun e i v'=>e=.normal/\AI.wp zQ.prog (bodyPost zQ.prog Tryz.f12 fun e v'=>∃val,e=.returned val/\a val v') i v') [5,6,7,8,9] ⟨Es x7 x8 x9 b pw,[]⟩ u:=Eg x7 x8 x9 _ h d g c a f
def vy(h:wC W pl [(LW,(⟨none,0,0⟩:SV)),(LX,⟨none,0,0⟩)] L):∃m dmb p1 p2,Kn pl m ⟨dmb,[]⟩ 0 p1 p2 30000 0 0 10 W/\p1≠p2:=by obtain⟨m,dmb,p1,d,e,p2,b,f,rfl,c,a,_⟩:=lu h;exact⟨m,dmb,p1,p2,⟨[],_,_,c,⟨rfl,rfl,rfl,rfl⟩,⟨rfl,rfl,rfl,rfl⟩,dC⟩,a⟩
def PW{n:yi}{D:Nat->Prop}{o:Nat}{T12:Ff}(hT:T12=Array.replicate 76 uf){b₀:Frame}{a₀:Act}{ops0:DQ}{i₀:Nat}{rest0:K4}{k₀:List Item}{m:Machine}{t:Trace}(I:aB.b0<=w.heap.size)(N:Rel (cM D) w v)(X:Dk aB.b0 D w)(f:jU (cM D) n)(ho:o+64<2147483647)(z:b₀.kind=.normal)(C:a₀.defers=[])(S:jS prog ops0=true)(s:∀x∈k₀,dY prog x=true)(F:fB prog n w.heap.size (o+1) (G ((base 12).at ⟨T12,[]⟩ [.code (f12.body.getD .skip)]) (b₀.at a₀ (.inRegion ops0 (i₀::rest0)::k₀)::cs)) w m t):
  Runs prog m t fun m' t'=>∃w' v' mH D' o',SO aB.b0 D' w w' v'/\jU (cM D') mH/\o'<=o+64/\
   fB prog mH w'.heap.size (o'+1) (G (after b₀ a₀ ops0 i₀ rest0 k₀ (.bool true)) cs) w' m' t':=by
 subst hT;refine(dR (Jy (h0:=w.heap)) rfl F).then fun m1 t1 h1=>?_;clear F;obtain⟨g1,w1,⟨rfl,E⟩,a4,j⟩:=h1;have d:=dQ (w':=w1) X N f E a4;have H:w1.heap.size=w.heap.size:=by rw[E]
 rw[<-H] at j;have g:=lq (D:=D) (ops:=fS) (l:=[0,1,2,3]) (l2:=[4,5,6,7,8,9]) (b:=base 12) (k:=[.code AI]) (cw:=b₀.at a₀ (.inRegion ops0 (i₀::rest0)::k₀)::cs) (w:=w1) (a:=⟨Er,[]⟩)
  (Φ:=fun a' v'=>∃u x7 x8 x9 b,Rel (cM D) w1 u/\a'=⟨XO x7 x8 x9 b,[]⟩/\Bw u v'/\v'.heap[b]?=ob (AG LW LX) 52) rfl rfl kr (fun x V=>by rw[aAB.1 V];exact ku) ⟨_,d.rel⟩
  (fun u y=>Et u _ (fun x7 x8 x9 b v' hb _ h=>⟨u,x7,x8,x9,b,y,rfl,hb,h⟩))
 refine(eM f g j).then fun m2 t2 h2=>?_;clear j g;obtain⟨g2,w2,⟨a2,v2,rfl,T,U,_,u1,x7,x8,x9,b,a5,rfl,a8,h⟩,p⟩:=h2;have l:=d.tr (jP d.dk d.rel f (aAw I d.up) a5 T U a8);refine(dR (Jz (h0:=w2.heap)) rfl p).then fun m3 t3 h3=>?_;clear p;obtain⟨g3,w3,⟨rfl,M⟩,a6,i⟩:=h3;have c:=l.tr (dQ (w':=w3) l.dk l.rel f M a6);have J:w3.heap.size=w2.heap.size:=by rw[M]
 rw[<-J] at i;have Y:aB.b0<=v2.heap.size:=by rw[c.rel.size];exact aAw I c.up
 refine(EE (ds:=[(LW,⟨none,0,0⟩),(LX,⟨none,0,0⟩)]) (cap:=2) (o:=o) (b₀:=base 12) (a₀:=⟨XO x7 x8 x9 b,[]⟩) (ops0:=fS) (i₀:=4) (rest0:=[5,6,7,8,9]) (k₀:=[.code AI]) (aAw I c.up) Y c.rel c.dk c.hid (qa:=⟨b,AG LW LX,52,(0,0)⟩) (off:=0) h (show(52:Nat)≠4 by decide) (.inr rfl) (by simp[AG,aV]) (by simp[AG,aV]) (lr h rfl rfl dC dC) ho rfl rfl kr (fun x V=>by rw[aAB.1 V];exact ku) i).then fun m4 t4 h4=>?_;clear i;obtain⟨w4,v4,q,W,o4,a9,r,B,a7,k⟩:=h4;have a:=c.tr r;rcases B with⟨_,pw,pl,L,rfl,a3,A,_,_⟩| ⟨Z,_⟩
 rotate_left
 .exact absurd vu Z
 rw[J3] at k;have e:=qF (D:=W) (f:=12) (fn:=f12) (c:=AI) (ops:=fS) (l:=[5,6,7,8,9]) (b:=base 12) (b₀:=b₀) (a₀:=a₀) (ops0:=ops0) (i₀:=i₀) (rest0:=rest0) (k₀:=k₀) (cw:=cs) (w:=w4) (a:=⟨Es x7 x8 x9 b pw,[]⟩)
  (Ψ:=fun val v'=>val=.bool true/\∃u,Rel (cM W) w4 u/\Bz u v')
  rfl (qz func12) rfl rfl kr ku z C S s ⟨_,a.rel⟩ (fun u y=>by have K:=mZ a.dk a.rel y;have⟨mm,dmb,p1,p2,Q,R⟩:=vy (A.tw K);exact vx x7 x8 x9 Q R (K.obj _ _ a3 (.inl trivial)) (by rw[y.size];exact aAw I a.up) _ (fun v' P=>⟨rfl,u,y,P⟩))
 refine(eM a.hid e k).mono fun m5 t5 h5=>?_;clear k e;obtain⟨g5,w5,⟨val,v5,rfl,a1,a0,rfl,u,y,P⟩,O⟩:=h5;exact⟨w5,v5,q,W,o4,a.toSO.tr (kE a.dk y a1 a0 (aAw I a.up) P.toBelow P.kz),a.hid,a7,O⟩
end
end
section
open Go.Shelf
variable [aB]
attribute [local go_sem] wd
def Sf:aI 1 0=1/\aI 1 1=0/\aI 1 2=0/\aI 1 3=0:=by decide
def Sx(a:Nat)(b:a<M)(W:WR):Cq 25 #[wd a] W fun e w'=>e=.rt (.bool (decide (a=1)))/\Bw W w':=by
 have heq:∀w,(Op.equalIn 10000 41 (.agg (wq a)) (.agg #[vU 1,vU 0,vU 0,vU 0])).run zQ.prog w=.ok (decide (a=1)) w:=fun w=>by have:=rW a 1 b (by decide) w;simp only[wd,wq,Sf.1,Sf.2.1,Sf.2.2.1,Sf.2.2.2] at this⊢;exact this
 have d:=aM W (.ce (wq a) 41);obtain⟨f,g,c2,c3⟩:=q4 d;have c:Bw W (W.nc (wq a) 41):=ba
 go_enter (qz func25),ntmps25;go_wp2;go_ret;exact⟨rfl,c⟩
end
section
open Go.Lift
section
def uM:Code->Code
 |.seq c _=>c
 |c=>c
def nL:Nat->Code->Code
 |0,c=>c
 |k+1,.seq _ c=>nL k c
 |_,c=>c
noncomputable def Ri:Code:=Tryz.f7.body.getD .skip
noncomputable def B6:Code:=nL 3 Ri
noncomputable def na(k:Nat):Code:=uM (nL k B6)
noncomputable def Sa:Code:=match na 4 with
 |.seq _ (.block _ (.loop (.seq _ (.seq (.block _ c) _))))=>c
 |_=>.skip
noncomputable def D6(k:Nat):Code:=uM (nL k Sa)
def lh(T:Ff)(n:Nat)(h:T.size=n):T=⟨(List.range n).map fun i=>T.getD i undef⟩:=by
 subst h;refine aCz fun i=>?_;by_cases a:i<T.size
 .simp[a]
 .simp[a]
def A6[aB](T:Ff)(h:T.size=118):∃x:Nat->vZ,T=⟨x 0::x 1::x 2::x 3::x 4::x 5::x 6::x 7::x 8::x 9::x 10::x 11::x 12::x 13::x 14::x 15::x 16::x 17::x 18::x 19::x 20::x 21::x 22::x 23::x 24::x 25::x 26::x 27::x 28::x 29::x 30::x 31::x 32::x 33::x 34::x 35::x 36::x 37::x 38::x 39::x 40::x 41::x 42::x 43::x 44::x 45::x 46::x 47::x 48::x 49::x 50::x 51::x 52::x 53::x 54::x 55::x 56::x 57::x 58::x 59::x 60::x 61::x 62::x 63::x 64::x 65::x 66::x 67::x 68::x 69::x 70::x 71::x 72::x 73::x 74::x 75::x 76::x 77::x 78::x 79::x 80::x 81::x 82::x 83::x 84::x 85::x 86::x 87::x 88::x 89::x 90::x 91::x 92::x 93::x 94::x 95::x 96::x 97::x 98::x 99::x 100::x 101::x 102::x 103::x 104::x 105::x 106::x 107::x 108::x 109::x 110::x 111::x 112::x 113::x 114::x 115::x 116::x 117::[]⟩:=
 ⟨fun i=>T.getD i uf,lh T 118 h⟩
structure sW (T:Array Value) (vi vo:SV) (pw:Nat):Prop where
 sz:T.size=118
 t0:T[0]?=some (.slice vi.a vi.n vi.c)
 t1:T[1]?=some (.slice vo.a vo.n vo.c)
 t5:T[5]?=some (.bool true)
 t6:T[6]?=some (pq pw 0)
structure eR (T:Ff) (vo:SV) (pw:Nat) (cl:Bool) (i:Nat):Prop where
 sz:T.size=118
 t1:T[1]?=some (.slice vo.a vo.n vo.c)
 t6:T[6]?=some (pq pw 0)
 t8:T[8]?=some (.bool cl)
 t11:T[11]?=some (.int .i64 (i:Int))
structure nD (T:Array Value) (vo:SV) (pw:Nat) (cl:Bool) (i bo:Nat) (v:SV):Prop where
 sz:T.size=118
 t1:T[1]?=some (.slice vo.a vo.n vo.c)
 t6:T[6]?=some (pq pw 0)
 t8:T[8]?=some (.bool cl)
 t11:T[11]?=some (.int .i64 (i:Int))
 t12:T[12]?=some (pq bo 0)
 t13:T[13]?=some (.slice v.a v.n v.c)
variable [aB]
attribute [local go_sem] wd
def Tt{a:Nat}{g:Ff}(h:w.heap[a]?=ob c 43)(f:w'.heap[a]?=ob g 43)(b:aU [a] [] w w')(e:aB.b0<=a):Px [43] w w':=
 b.px (fun k d _=>by rw[aAB.1 d,h,f];exact⟨by simp[kd],by simpa[kd,lw,aB.lo] using e,rfl⟩) (fun t i=>by cases i)
def Oe{T:Ff}{A:SV}(l:sW T A vo pw)(W:WR)(F:ds=[]\/∃b o,A.a=some ⟨b,o,none⟩/\nS W b o ds)(c:A.n=ds.length)(M:ds.length<=64)(G:∀p∈ds,p.1.code.size<2147483648)(D:Fi)(y:∀z d,z.size=118->z[1]?=some (.slice vo.a vo.n vo.c)->z[6]?=some (pq pw 0)->z[8]?=some (.bool d)->(d=true->∀p∈ds,Wo p.1.code)->D ⟨z,[]⟩ W):
  (na 0).wp zQ.prog (fun e a w=>e=.normal/\(na 1).wp zQ.prog (fun e a w=>e=.normal/\(na 2).wp zQ.prog (fun e a w=>e=.normal/\(na 3).wp zQ.prog (fun e a w=>e=.normal/\D a w) a w) a w) a w) ⟨T,[]⟩ W:=by
 have t:=US y;clear y;obtain⟨x,rfl⟩:=A6 T l.sz;rw[show x 0=_ from aAv l.t0,show x 1=_ from aAv l.t1,show x 5=_ from aAv l.t5,show x 6=_ from aAv l.t6];clear l;obtain⟨N,O,P⟩:=A;simp only at c F;subst c;dsimp only[na,uM,nL,B6,Ri,f7,gdS]
 (go_wp2_with fail)
 go_loopw [8,9] (fun q j V=>∃(d:Bool) (k:Nat),q=.bool d/\j=vI (k:Int)/\k<=ds.length/\(d=true->∀(n:Nat) p,n<k->ds[n]?=some p->Wo p.1.code)/\V=W) (fun _ j _=>ds.length - (Go.RowKit.intOf j).toNat)
 case atStart=>exact⟨true,0,rfl,rfl,aBa _,fun _ n p c=>absurd c (Nat.not_lt_zero _),rfl⟩
 case round=>
  obtain⟨d,k,rfl,rfl,L,m,rfl⟩:=hrel;have f:=US m;clear m;by_cases g:k<ds.length
  .have u:(k:Int)<(ds.length:Int):=oM
   obtain⟨p,v⟩:∃p,ds[k]?=some p:=⟨_,aAG g⟩;obtain⟨b,o,rfl,B⟩:=F.resolve_left (by intro e;rw[e] at g;simp at g);have K:=B k p v 6 _ rfl;have E:=Rv p.1.code (G p (aBj v)) wr
   (go_wp2_with fail)
   apply E.mono;rintro e w1 ⟨s,rfl⟩;clear E K;obtain⟨q,rfl,I⟩:∃q,e=.rt (.bool q)/\Shut (q=true->Wo p.1.code):=by
    rcases s with⟨rfl,h⟩|rfl
    .exact⟨true,rfl,fun _=>h⟩
    .exact⟨false,rfl,fun h=>by cases h⟩
   clear s;obtain⟨r,C⟩:∃r,(d&&q)=r:=⟨_,rfl⟩
   have H:=US C
   cases d
   all_goals
    simp only[Bool.false_and,Bool.true_and] at C
    subst C
    (go_wp2_with fail)
    go_roundw
    case rel=>
     refine⟨_,k+1,rfl,by go_num,oM,fun h n J c i=>?_,trivial⟩;rcases Nat.lt_succ_iff_lt_or_eq.1 c with c|rfl
     .exact f.out (by first|trivial|rfl|cases h) n J c i
     .rw[v] at i;cases i;first|exact I.out h|cases h
    case measure=>simp[Go.RowKit.intOf];exact oM
  .have u:¬(k:Int)<(ds.length:Int):=oM
   (go_wp2_with fail)
   exact t.out _ d rfl rfl rfl rfl (fun h p v=>by have⟨n,c,e⟩:=aBe.1 v;exact f.out h n p oM (by rw[<-e];exact aAG c))
theorem Jj{T:Array Value}{i f:Nat}{cl:Bool}{o:Od}(hT:eR T vo pw cl i)(W:World)(hi:i<vo.n)(hva:vo.a=some ⟨b,f,none⟩)(hco:cI W b (f+i*11) o.cs.toList)(hr:-9223372036854775808<=o.src/\o.src<=9223372036854775807)(hb0:aB.b0<=W.heap.size)(hnn:vo.n<800000000000){S:SV->List (bF×SV)->World->Prop}(hac:Calls zQ.prog 17 #[pq pw 0] (W.alloc (.cells o.cs 43)) fun e w'=>∃v os,e=.returned (.slice v.a v.n v.c)/\S v os w')(hS:∀v os w,S v os w->Rl w v os/\os.length<800000000000/\Below (W.alloc (.cells o.cs 43)).heap.size (W.alloc (.cells o.cs 43)) w){y:Code}{Q:Exit->Act->World->Prop}(hΦ:∀T' v os w w' o',S v os w->nD T' vo pw cl i W.heap.size v->o'.val=o.val->o'.dst=o.dst->w'.heap[W.heap.size]?=ob (Od.cs o') 43->Px [43] w w'->Below W.heap.size W w'->y.wp zQ.prog Q ⟨T',[]⟩ w'):
  (Code.seq (D6 0) (.seq (D6 1) (.seq (D6 2) y))).wp zQ.prog Q ⟨T,[]⟩ W:=by
 have hΦs:=US hΦ;have hSs:=US hS;clear hΦ hS;obtain⟨x,rfl⟩:=A6 T hT.sz;rw[show x 1=_ from Option.some.inj hT.t1,show x 6=_ from Option.some.inj hT.t6,show x 8=_ from Option.some.inj hT.t8,show x 11=_ from Option.some.inj hT.t11];clear hT;obtain⟨va,vn,vc⟩:=vo;simp only at hi hva hnn;subst hva;have hi':(i:Int)<(vn:Int):=oM
 have hcs:=US hco;have k0:=hco 0 _ rfl;have k1:=hco 1 _ rfl;have k2:=hco 2 _ rfl;have k3:=hco 3 _ rfl;have k4:=hco 4 _ rfl;have k5:=hco 5 _ rfl;have k6:=hco 6 _ rfl;have k7:=hco 7 _ rfl;have k8:=hco 8 _ rfl;have k9:=hco 9 _ rfl;have k10:=hco 10 _ rfl;simp only[Nat.add_zero] at k0;clear hco;dsimp only[D6,Sa,na,uM,nL,B6,Ri,Tryz.f7,Option.getD_some]
 (go_wp2_with fail)
 change Calls _ _ _ (W.alloc (.cells o.cs 43)) _;refine hac.mono ?_;rintro e w1 ⟨v,os,rfl,hS1⟩;clear hac k0 k1 k2 k3 k4 k5 k6 k7 k8 k9 k10;obtain⟨hR,hol,hb1⟩:=hSs.out v os w1 hS1;have hS1s:=US hS1;clear hS1 hSs;have hbo:w1.heap[W.heap.size]?=ob o.cs 43:=bk hb1 (aM W _);have hbW:Below W.heap.size W w1:=(ba (w:=W) (o:=.cells o.cs 43)).trans (hb1.mono (by simp));obtain⟨bo,hboe⟩:∃bo,W.heap.size=bo:=⟨_,rfl⟩;have hlo:aB.b0<=bo:=by exact oM
 rw[hboe] at hΦs hbo hbW⊢;have hboes:=US hboe;clear hboe;have hblt:=aG hbo;by_cases h0:v.n=0
 .have h0':¬(0:Int)<(v.n:Int):=oM
  have h0s:=US h0;clear h0
  (go_wp2_with fail)
  exact hΦs.out _ v os w1 w1 o hS1s.out ⟨rfl,rfl,rfl,rfl,rfl,rfl,rfl⟩ rfl rfl hbo (Px.refl _ _) hbW
 .have h0':(0:Int)<(v.n:Int):=oM
  obtain⟨va,vn2,vc2⟩:=v;have hRn:vn2=os.length:=hR.n;have hR2:=hR.at';simp only at h0 h0' hR2;subst hRn;obtain⟨g,rfl,hg,hac⟩:=hR2.resolve_left (by intro e;rw[e] at h0;exact h0 rfl);have y0:=bq hbo 0;have y2:=bq hbo 2;have f0:=aQ hbo 0;have f2:=aQ hbo 2
  (go_wp2_with fail)
  refine(Sv o.src os.length oM hol hr.1 hr.2 _).mono ?_;rintro e w2 ⟨k,hk,rfl,rfl⟩;have hk':(k:Int)<(os.length:Int):=oM
  obtain⟨p,hp⟩:∃p,os[k]?=some p:=⟨_,List.getElem?_eq_getElem hk⟩;have hce:=hac k p hp;rw[Nat.zero_add] at hce;have z0:=hce 0 _ rfl;have z1:=hce 1 _ rfl;have z2:=hce 2 _ rfl;have z3:=hce 3 _ rfl;have z4:=hce 4 _ rfl;have z5:=hce 5 _ rfl;have z6:=hce 6 _ rfl;have z7:=hce 7 _ rfl;simp only[Nat.add_zero] at z0
  (go_wp2_with fail)
  have hr3:((w2.setCell ⟨bo,0,none⟩ (.int .i64 p.1.id)).setCell ⟨bo,2,none⟩ (.int .i64 p.1.nonce)).heap[bo]?=ob (Od.cs {o with src:=p.1.id,nonce:=p.1.nonce}) 43:=aO (i:=2) (aO (i:=0) hbo)
  have hpx:=Tt hbo hr3 ((aU.setCell w2 bo 0 _).trans (aU.setCell _ bo 2 _)) hlo;have hbW3:=(hbW.setCell (p:=⟨bo,0,none⟩) (Nat.le_refl _) (.int .i64 p.1.id)).setCell (p:=⟨bo,2,none⟩) (Nat.le_refl _) (.int .i64 p.1.nonce)
  exact hΦs.out _ _ os w2 _ {o with src:=p.1.id,nonce:=p.1.nonce} hS1s.out ⟨rfl,rfl,rfl,rfl,rfl,rfl,rfl⟩ rfl rfl (bk ba hr3) (hpx.trans (Px.aF ba _)) (hbW3.alloc (by have:=aG hr3;exact oM) _)
end
section
variable [aB]
def Ud(W:WR)(l m d:Nat)(dp li:Addr)(c T:Nat)(f:Prop)(e:vZ)(w:WR):Prop:=
 ∃(b:Int) (h:AM) (g a:Nat),RP w l m d b h dp li g a f/\g<=c+1030200/\Px TT W w/\a<=T/\(f->a=T)/\((∃y:vZ,e=.iface 90 y/\a=T)\/e=.nilIface)
def Um{c:Nat}{q:Prop}(h:RP W l m d cr A dp li c T q)(G:aB.b1<=W.heap.size)(Q:c<380000000000)(a:W.heap[pw]?=ob #[pq l 0] 87)(o:Od)(P:o.val<M)(u:q->o.dst≠0):
  Cq 15 #[pq pw 0,.agg o.cs] W fun e w'=>∃I k id lv s n,e=.returned (.tuple #[.agg (fM I k id lv s),n])/\Ud W l m d dp li c T q n w':=by
 obtain⟨H,t,nonce,val,K,L,data,N⟩:=o;refine ye (l:=l) (Q:=fun _ _ _ _ _ n w=>Ud W l m d dp li c T q n w) ((aJ a 0).trans rfl) (aG a) (fun w g=>?_) h.ge.low fun I k id lv s n w w' J f E=>?_
 .have C:=g.size;refine(Qg (h.below g) (aAw G C) Q ⟨H,t,nonce,val,K,L,data,N⟩ P u).mono ?_;have j:∀w',Px TT w w'->Kp W.heap.size w w'/\w'.cell? ⟨pw,0,none⟩=W.cell? ⟨pw,0,none⟩:=fun w' f=>?_
  .rintro e w' (⟨y,_,rfl,i⟩| ⟨r,lv,rfl,O,D,R⟩)
   .have f:Px TT w w':=Px.aF i _;exact⟨_,_,_,_,_,_,rfl,⟨cr,A,c,T,(h.below g).below i,oM,(Px.aF g _).trans f,aAz _,fun _=>rfl,.inl ⟨_,rfl,rfl⟩⟩,j w' f⟩
   .obtain⟨b,B,x,F,z,v,h3,h4⟩:=D.ex;refine⟨_,_,_,_,_,_,rfl,⟨b,B,x,F,z,v,(Px.aF g _).trans D.px,h3,h4,.inr rfl⟩,j w' D.px⟩
  .have p:=bk g a;exact⟨Kp.px f dC dC,by rw[aJ (f.row p dC) 0,aJ a 0]⟩
 .obtain⟨b,B,x,F,z,v,h3,h4⟩:=J;exact⟨b,B,x,F,z.px f dC dC,v,h3.HI E,h4⟩
def RP.Ui{c:Nat}{b a:Prop}(h:RP W l m d cr A dp li c T b)(e:a->b):RP W l m d cr A dp li c T a:=
 ⟨h.lf,h.ge,h.av,h.sup,h.bc,⟨h.tq.CL,h.tq.lt,fun q=>h.tq.cd (e q)⟩⟩
def Te{a:List (bF×SV)}(h:Td A (a.map (·.1)))(m:CL A T)(j:T<M):sm a=T:=by
 have n:((a.map (·.1)).map fun d:bF=>d.id).Nodup:=aBw.2 (aCH (fun h e=>by simp only[e] at h;omega) h.od)
 have e:=Rj m n fun k=>?_
 .rw[aAS,aAS] at e;unfold sm;rw[show (a.map fun p=>p.1.cn).sum=T from ?_]
  .exact aBS j
  .rw[<-e];congr 1;refine aBO fun p i=>?_;have⟨b,v,g,l⟩:=h.of p.1 (aAI i);show p.1.cn=(gt A p.1.id).cn;unfold gt;rw[g];exact l.cn
 .constructor
  .intro f;obtain⟨d,c,rfl⟩:=aAJ.1 f;have⟨b,v,g,_⟩:=h.of d c;rw[g];simp
  .intro f;obtain⟨d,c,rfl⟩:=h.all k f;exact aAI (f:=fun d:bF=>d.id) c
theorem AH(s:Lp):∀(k p:Nat) (A:Ff),(∀i,i<A.size->∃b,A[i]?=some (.bool b))->∀i,i<A.size->∃b,(marks s k p A)[i]?=some (.bool b)
 |0,_,A,h,i,a=>h i a
 |k+1,p,A,h,i,a=>by
  unfold marks;split
  .refine AH s k _ _ (fun j c=>?_) i (by simpa using a);rw[aBK];split
   .split
    .exact⟨_,rfl⟩
    .rename_i e d;subst e;simp at c;exact absurd c d
   .exact h j (by simpa using c)
  .exact h i a
def PX(n i:Nat)(h:i<n):∃b,(fI n)[i]?=some (.bool b):=⟨false,by show(madeCells #[.bool false] n)[i]?=_;rw[<-aBp,toList_madeCells_one,List.getElem?_replicate,if_pos h]⟩
def lx(h:wC W pl ds L)(w:gM (ds.map (·.1)))(A:Ge W dp li):∃m d T,RP W pl m d 0 (am L) dp li 5000 T (∀p∈ds,Wo p.1.code):=by
 have⟨m,dmb,t⟩:=h.lg;have x:ds.length<=64:=by have:=w.1;simpa using this
 have key:∀q∈L,∃d l ms g,(∃p∈ds,p.1=d)/\iD d/\q=oK d ⟨some ⟨g,0,none⟩,d.code.size,d.code.size⟩ l ms/\W.heap[g]?=ob (marks d.code d.code.size 0 (fI d.code.size)) 4:=fun q a=>by
  have⟨i,f,e⟩:=aBe.1 a;have c:i<ds.length:=by rw[<-h.len];exact f
  have⟨l,ms,g,r,s⟩:=h.mu i ds[i].1 (by rw[aAG c];rfl);rw[aAG f,e] at r;exact⟨_,l,ms,g,⟨_,aBf c,rfl⟩,w.2.1 _ (aAI (aBf c)),aAv r,s⟩
 have n:∀k,am L k≠none->k∈L.map (·.1):=fun k o=>by
  cases y:am L k with
  |none=>exact absurd y o
  |some z=>
   have⟨q,a,e,_⟩:=fR (b:=z.1) (v:=z.2) y;rw[<-e];exact aAI (f:=fun q:Int×Nat×Ac=>q.1) a
 refine⟨m,dmb,((ds.map (·.1)).map (·.cn)).sum,⟨L,[],t,rfl,fun i=>⟨fun h=>(by cases h),False.elim⟩,fun q a p u=>?_⟩,A,fun i b v f=>?_,⟨L.map (·.1),by rw[aBB,h.len];omega,n,fun k o=>?_⟩,⟨aBq _,by show(0:Int)<=((5000:Nat):Int);omega⟩,⟨⟨L.map (·.1),t.nd,n,?_⟩,w.2.2.2,fun B=>⟨fun _=>id,fun i b v f=>?_⟩⟩⟩
 .obtain⟨d,l,ms,g,_,_,rfl,_⟩:=key q a;have:=(aCU.1 u).2;simpa using this
 .obtain⟨q,a,_,_,rfl⟩:=fR f;obtain⟨d,l,ms,g,_,⟨_,_,G,M,I,J,_⟩,rfl,D⟩:=key q a;refine⟨⟨G,by show d.nonce<=4611686018427387904+((5000:Nat):Int);omega⟩,⟨(kept d.bE).map (·.1),?_,fun k o=>?_⟩,.inr ⟨g,0,_,rfl,D,fun i f=>?_⟩,by show d.code.size<_;omega,by show d.code.size<_;omega⟩
  .have:(kept d.bE).length<=d.bE.length:=List.length_filter_le _ _;rw[aBB];omega
  .apply aCd;intro C;exact o (FU C)
  .rw[aAM];exact AH _ _ _ _ (fun j F=>PX _ _ (by rwa[qV] at F)) i (by rw[qV];exact f)
 .obtain⟨q,a,rfl⟩:=aAJ.1 o;obtain⟨d,l,ms,g,_,⟨K,H,_⟩,rfl,_⟩:=key q a;exact⟨by show 0<=d.id;omega,by show d.id<=4294967295;omega⟩
 .congr 1;rw[aAS,aAS];refine List.ext_getElem (by simp[h.len]) fun i r s=>?_
  have f:i<L.length:=by simpa using r
  have c:i<ds.length:=by simpa using s
  have⟨l,ms,g,k1,_⟩:=h.mu i ds[i].1 (by rw[aAG c];rfl);have E:=yT t.nd (aBf f);rw[aAG f] at k1;simp only[aCN,Function.comp];unfold gt;rw[E,aAv k1];rfl
 .obtain⟨q,a,_,_,rfl⟩:=fR f;obtain⟨_,l,ms,g,⟨p,u,rfl⟩,_,rfl,_⟩:=key q a;exact B p u
end
end
end Go.Mark
