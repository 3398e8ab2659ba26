import Derived.Test.YtbephahokhnccaaGreatDoorJ9
set_option linter.all false
set_option maxRecDepth 100000
set_option maxHeartbeats 8000000
namespace Go.Mark
open Go.RowKit Go.Proofs Go.Proofs.Tryz
variable{a:Ac}{dm:Dm}{back depth cr:Int}{q p:Int×Nat×Ac}{L:List (Int×Nat×Ac)}{T T':K4}{J:K3}{l mc m k f b:Nat}{lg sv:SV}{et mt:Fh}{W w w' v u:WR}{F:fC}
section
variable [aB]
attribute [local go_sem] wd
def Ca(e:Addr)(W:WR)(d:W.cA 4 0=some (.iface 355 (.agg #[pq 11 36]))):
  Cq 222 #[.iface 299 (.pointer (some e)),.iface 301 (pq W.heap.size 0)] (W.alloc (.ce #[.pointer none] 299)) fun c w'=>c=.rt (.bool true)/\Bw W w'/\w'.heap[W.heap.size]?=ob #[.pointer (some e)] 299:=by
 have a:4<W.heap.size:=by
  rcases aCi 4 W.heap.size with h|h
  .exact h
  .simp[World.cell?,aBh h] at d
 have b:=aM W (.ce #[.pointer none] 299);have f:Bw W (W.nc #[.pointer none] 299):=ba;refine(Hr e ⟨W.heap.size,0,none⟩ (.pointer none) (W.nc #[.pointer none] 299) ((f.cell (p:=(ad 4 0)) a).tr d) (by rw[aJ b 0];rfl) (aQ b 0)).mono ?_;rintro c w' ⟨rfl,rfl⟩;refine⟨rfl,((((f.aL sI _).aL sQ0 _).aL sQ0 _).aL sQ0 _).sC lR _,?_⟩;exact aO (i:=0) (aT (aT (aT (aT b))))
def so{j:Nat}{b place x v:Int}{n:vZ}{g:Nat}{Φ:K6}(D:W.heap[mc]?=ob (aZ l lg back depth) 165)(A:W.heap[j]?=ob #[vI b,vI place,n,vI x,vI (g:Int),vI v] 303)(G:W.cA 4 0=some (.iface 355 (.agg #[pq 11 36])))(M:g<=lg.n)(H:lg.n<=lg.c)(O:∀w,Bw W w->Cq 223 #[pq l 0,vI x] w fun e w'=>e=rU/\Φ w'/\∀(k:Nat) (c:Ff) (t:Fh),t=165\/t=299\/t=303->w.heap[k]?=some (Obj.cells c t (0,0))->w'.heap[k]?=some (Obj.cells c t (0,0))):
  Cq 177 #[pq mc 0,.iface 299 (pq j 0)] W fun e w'=>e=rU/\∃w1,Φ w1/\w'.heap[mc]?=ob (aZ l ⟨lg.a,g,lg.c⟩ v depth) 165/\aU [mc] [] w1 w':=by
 have u:=Ca ⟨j,0,none⟩ W G;have N:=aG D;have R:=aG A;have y:j≠mc:=dP A D dC;have I:(g:Int)<=(lg.c:Int):=oM
 clear G;go_enter (qz func177),ntmps177;go_wp2_with fail;apply u.mono;rintro e w1 ⟨rfl,p,B⟩;clear u;have z:=bk p D;have E:=bk p A;have F:Bw W w1.drew:=p.drew;go_wp2_with fail;refine rq (fun V=>V.heap[mc]?=ob (aZ l lg back depth) 165/\V.heap[W.heap.size]?=ob #[pq j 0] 299/\V.heap[j]?=ob #[vI b,vI place,n,vI x,vI (g:Int),vI v] 303) ⟨z,B,E⟩ fun a=>?_;refine t3 0 1 2 a ?_;refine tV 3 (fun _ h=>bq h.1 0) a ?_;refine tV 4 (fun _ h=>bq h.2.1 0) a ?_;refine t3 5 6 7 a ?_;refine tV 8 (fun _ h=>bq h.2.2 3) a ?_;refine rA 9 fun K d=>?_;go_simp;apply(O _ F).mono;rintro e m ⟨rfl,C,o⟩;go_wp2_with fail;have f:m.heap[mc]?=_:=o _ _ _ (.inl rfl) a.1;have r:m.heap[W.heap.size]?=_:=o _ _ _ (.inr (.inl rfl)) a.2.1;have s:m.heap[j]?=_:=o _ _ _ (.inr (.inr rfl)) a.2.2;refine d.out _ _ ⟨f,r,s⟩ fun a=>?_;refine dn ?_;clear a;have P:=bq f 1;have J:=aQ f 1;have Q:=aG f;go_wp2_with fail;refine rq (fun V=>V.heap[W.heap.size]?=ob #[pq j 0] 299/\V.heap[j]?=ob #[vI b,vI place,n,vI x,vI (g:Int),vI v] 303) ⟨r,s⟩ fun a=>?_;refine t4 0 1 2 3 a ?_;refine tV 5 (fun _ h=>bq h.1 0) a ?_;refine t3 6 7 8 a ?_;refine tV 9 (fun _ h=>bq h.2 4) a ?_;refine rA 4 fun K d=>?_;go_simp;refine d.out _ _ a fun a=>?_;refine rA 10 fun K d=>?_;go_simp;refine d.out _ _ a fun a=>?_;refine rA 11 fun K d=>?_;go_simp;refine d.out _ _ a fun a=>?_;refine rA 12 fun K d=>?_;go_simp;refine d.out _ _ a fun a=>?_;refine rA 13 fun K d=>?_;go_simp;refine d.out _ _ ⟨aD a.1 oM,aD a.2 y⟩ fun a=>?_;refine dn ?_;have i:(m.setCell ⟨mc,1,none⟩ (.sl lg.a g lg.c)).drew.heap[mc]?=ob (aZ l ⟨lg.a,g,lg.c⟩ back depth) 165:=aO (i:=1) f;have q:aU [mc] [] m (m.setCell ⟨mc,1,none⟩ (.sl lg.a g lg.c)).drew:=(aU.setCell m mc 1 _).tr (.aF bR.drew _ _);generalize(m.setCell ⟨mc,1,none⟩ (.slice lg.a g lg.c)).drew=L at a i q⊢;have X:=bq i 2;have U:=aQ i 2;have T:=bq a.1 0;have S:=bq a.2 5;clear P J;go_wp2;simp[bodyPost,results,results177,go_sem];exact⟨m,C,aO (i:=2) i,q.tr (aU.setCell L mc 2 _)⟩
def Hs(v:vZ)(w:WR):(Instr.typeAssert (.iface 217 v) 116 217 true).run zQ.prog w=.ok (.tuple #[v,.bool true]) w:=kR
def VT(v:vZ)(w:WR):(Instr.typeAssert (.iface 174 v) 116 217 true).run zQ.prog w=.ok (.tuple #[.agg #[.int .i64 0,.nilIface],.bool false]) w:=kR
def qE(mc:Nat)(v:vZ)(W:WR):
  Cq 137 #[pq mc 0,.iface 174 v] W fun e w'=>e=.rt (.iface 174 v)/\w'=W:=by
 have a:=VT;go_enter (qz func137),ntmps137;go_wp2;go_ret;exact⟨rfl,rfl⟩
def GH{g:Int}{b:vZ}{Φ:K6}(d:∀w,Bw W w->Cq 177 #[pq mc 0,.iface et b] w fun e w'=>e=rU/\Φ w'):
  Cq 137 #[pq mc 0,.iface 217 (.agg #[vI g,.iface et b])] W fun e w'=>e=.rt (.iface 217 (.agg #[vI g,.iface et b]))/\Φ w':=by
 have h:=Hs;have f:Bw W (W.nc #[vI g,.iface et b] 217):=ba;have a:=d _ f;clear d;go_enter (qz func137),ntmps137;go_wp2_with fail;apply a.mono;rintro e w1 ⟨rfl,c⟩;clear a;go_wp2;go_ret;exact⟨rfl,c⟩
def sq(b a:Int)(val:Nat)(data:SV)(c:Int):Ff:=#[.pointer none,.int .i64 0,.int .i64 0,.int .i64 0,.string ⟨#[]⟩,.slice none 0 0,.int .i64 b,.int .i64 a,.int .u64 (aI val 0),.int .u64 (aI val 1),.int .u64 (aI val 2),.int .u64 (aI val 3),.slice data.a data.n data.c,.int .i64 c,.slice none 0 0,.slice none 0 0,.int .i64 0,.int .i64 0]
def KB(h:LG W l m dm cr L J)(o:W.heap[mc]?=ob (aZ l lg back depth) 165)(b a:Int)(val:Nat)(data:SV)(i:Int):
  Calls zQ.prog 134 #[pq mc 0,.agg (sq b a val data i)] W fun e w'=>e=.returned (pq W.heap.size 0)/\w'.heap[W.heap.size]?=ob (vT ⟨mc,(J.length:Int),(lg.n:Int),back,⟨#[]⟩,⟨none,0,0⟩,b,a,val,data,i,0,0⟩ ⟨none,0,0⟩) 225/\Below W.heap.size W w':=by
 have d:Below W.heap.size W (W.alloc (.cells (sq b a val data i) 225)):=ba;have g:=aM W (.cells (sq b a val data i) 225);have c:=Af (h.below d) (aT (p:=.cells (sq b a val data i) 225) o);unfold sq at d g c⊢;go_enter (qz func134),Tryz.ntmps134;go_wp2_with fail
 refine c.mono ?_;rintro e w2 ⟨rfl,j⟩;clear c;have f:=bk j g;have n:=aG f;obtain⟨u,r,c2,c3,p,q,s,t⟩:=q8 f;go_wp2;go_ret;have k:=d.trans (j.mono d.size);exact⟨rfl,dV _ _ _ _ f,(((k.setCell (Nat.le_refl _) _).setCell (Nat.le_refl _) _).setCell (Nat.le_refl _) _).setCell (Nat.le_refl _) _⟩
def oJ(a b:Int)(val:Nat)(c:Int)(data:SV):Ff:=#[.int .i64 a,.int .i64 b,.int .u64 (aI val 0),.int .u64 (aI val 1),.int .u64 (aI val 2),.int .u64 (aI val 3),.int .i64 c,.slice data.a data.n data.c]
def call92(h:LG W l m dm cr L J)(hm:W.heap[mc]?=ob (aZ l lg back depth) 165)(a2:depth≠64)(Y:q∈L)(Z:p∈L)(a0:q.2.1≠p.2.1)(x:Nat)(hx:x<M)(a8:x<=q.2.2.bal)(k:Int)(data:SV)(hJ:J.length+1<100000000){Ψ:vZ->K6}(A:∀w f,w.heap[f]?=ob (vT ⟨mc,(J.length:Int),(lg.n:Int),back,p.2.2.code,p.2.2.mark,p.1,q.1,x,data,k,0,0⟩ ⟨none,0,0⟩) 225->W.heap.size<=f->w.heap[mc]?=ob (aZ l lg back depth) 165->LG w l m dm cr (fG (fG L q.2.1 {q.2.2 with bal:=(q.2.2.bal+M - x) % M}) p.2.1 {p.2.2 with bal:=(p.2.2.bal+x) % M}) (J++[kH q.2.1 q.2.2.bal]++[kH p.2.1 p.2.2.bal])->aU [l,q.2.1,p.2.1] [262] W w->
   Cq 139 #[pq mc 0,pq f 0] w fun e w'=>∃t v,e=.rt (.iface t v)/\Cq 137 #[pq mc 0,.iface t v] w' fun e w'=>∃t v,e=.rt (.iface t v)/\Ψ (.iface t v) w'):
  Cq 92 #[pq mc 0,.agg (oJ q.1 p.1 x k data)] W fun e w'=>∃t v,e=.rt (.iface t v)/\Ψ (.iface t v) w':=by
 have g:Bw W (W.alloc (.ce (oJ q.1 p.1 x k data) 172)):=ba;have T:=aM W (.ce (oJ q.1 p.1 x k data) 172);have al:=aG hm;have ac:=h.cell0.1;have ar:=aG (h.acc q Y);have b0:=aG (h.acc p Z);have C:=h.below g;have j:=FN C (aT (p:=.ce (oJ q.1 p.1 x k data) 172) hm) a2 Y x hx a8;have U:=US A
 clear A;go_enter (qz func92),ntmps92;unfold oJ at g T C j⊢;go_wp2_with fail;apply j.mono;rintro e w1 ⟨rfl,u⟩;clear j;have P:=C.below u;have b:=bk u T;have G:w1.heap[mc]?=_:=(u.block _ sQ0).tr (bk g hm);have D:=g.tr (u.mono g.size);have c0:=bq b 0;have c1:=bq b 1;have c2:=bq b 2;have c3:=bq b 3;have c4:=bq b 4;have c5:=bq b 5;have c6:=bq b 6;have c7:=bq b 7;have E:=KB P G p.1 q.1 x data k;unfold sq at E;have aa:=aG b;go_wp2_with fail;apply E.mono;rintro e w2 ⟨rfl,R,o⟩;clear E c0 c1 c2 c3 c4 c5 c6 c7;have a9:=P.below o;have a7:w2.heap[W.heap.size]?=ob (oJ q.1 p.1 x k data) 172:=bk o b;have a4:w2.heap[mc]?=ob (aZ l lg back depth) 165:=(o.block _ (by have:=D.size;omega)).tr G;have O:=D.tr (o.mono D.size);have n:W.heap.size<w1.heap.size:=aa;generalize w1.heap.size=f at R n⊢;clear b G;go_wp2_with fail;refine rq (fun V=>V.heap[mc]?=ob (aZ l lg back depth) 165/\V.heap[W.heap.size]?=ob (oJ q.1 p.1 x k data) 172) ⟨a4,a7⟩ fun a=>?_;refine t4 0 2 3 4 a ?_;refine tV 5 (fun _ d=>bq d.1 0) a ?_;refine t1 6 a ?_;refine tV 7 (fun _ d=>bq d.2 1) a ?_;refine t1 1 a ?_;refine rA 8 fun K F=>?_;go_simp;apply(pj (a9.below bR.drew) Z).mono;rintro e W3 ⟨rfl,i⟩;go_wp2_with fail;refine F.out _ _ ⟨bk i a.1,bk i a.2⟩ fun a=>?_;refine t5 9 10 11 12 13 a ?_;have c:=bk i R;have S:=dP a.1 c dC;have I:=dP a.2 c dC;have g4:=bq c 4;have g5:=bq c 5;have z4:=aQ c 4;have z5:=aQ c 5;refine rA 14 fun K F=>?_;go_simp;refine F.out _ _ ⟨aD a.1 S,aD a.2 I⟩ fun a=>?_;refine t2 15 16 a ?_;refine rA 17 fun K F=>?_;go_simp;refine F.out _ _ ⟨aD a.1 S,aD a.2 I⟩ fun a=>?_;refine dn ?_;have Q:((W3.setCell ⟨f,4,none⟩ (.string p.2.2.code)).setCell ⟨f,5,none⟩ (.sl p.2.2.mark.a p.2.2.mark.n p.2.2.mark.c)).heap[f]?=ob (vT ⟨mc,(J.length:Int),(lg.n:Int),back,p.2.2.code,p.2.2.mark,p.1,q.1,x,data,k,0,0⟩ ⟨none,0,0⟩) 225:=aO (i:=5) (aO (i:=4) c);have z:=O.tr ((Below.refl _ w2).drew.tr i|>.mono O.size);have r:Bw W _:=(z.setCell (p:=(ad f 4)) (aBQ n) (.string p.2.2.code)).setCell (p:=(ad f 5)) (aBQ n) (.sl p.2.2.mark.a p.2.2.mark.n p.2.2.mark.c);generalize(W3.setCell ⟨f,4,none⟩ (.string p.2.2.code)).setCell ⟨f,5,none⟩ (.slice p.2.2.mark.a p.2.2.mark.n p.2.2.mark.c)=W4 at a Q r⊢;have B:=h.below r;clear g4 g5 z4 z5 c i z;go_wp2_with fail;refine rq (fun V=>V.heap[mc]?=ob (aZ l lg back depth) 165/\V.heap[W.heap.size]?=ob (oJ q.1 p.1 x k data) 172) a fun a=>?_;refine t3 0 1 2 a ?_;refine tV 3 (fun _ d=>bq d.1 0) a ?_;refine t1 4 a ?_;refine tV 5 (fun _ d=>bq d.2 0) a ?_;refine t1 6 a ?_;refine tV 7 (fun _ d=>bq d.2 1) a ?_;refine t1 8 a ?_;refine tV 9 (fun _ d=>aq (bq d.2 2) (aq (bq d.2 3) (aq (bq d.2 4) (bq d.2 5)))) a ?_;refine rA 10 fun K F=>?_;go_simp;apply(py (B.below bR.drew) Y Z a0 x hx hJ).mono;rintro e X ⟨rfl,a6,s⟩;go_wp2_with fail;have H:X.heap[mc]?=_:=s.obj a.1 (by show(165:Nat)∉[262];decide) (by have hj:=(h.below r).lj.ex;have⟨jv,hj,_⟩:=hj;have e1:=dP a.1 hj dC;have e2:=dP a.1 (B.acc q Y) dC;have e3:=dP a.1 (B.acc p Z) dC;simp only[aAx,aAC,or_false,not_or];exact⟨e1,e2,e3⟩);refine F.out _ _ ⟨H,s.obj a.2 (by show(172:Nat)∉[262];decide) sQ0⟩ fun a=>?_;refine dn ?_;have a5:X.heap[f]?=_:=s.obj Q (by show(225:Nat)∉[262];decide) sQ0;have a1:aU [l,q.2.1,p.2.1] [262] W X:=aU.tr (.aF r _ _) (aU.tr (.aF bR.drew _ _) s);have N:=U.out X f a5 (aBQ n) H a6 a1;clear U;go_wp2_with fail;apply N.mono;rintro e w6 ⟨t,v,rfl,y⟩;clear N;go_wp2_with fail;apply y.mono;rintro e w7 ⟨t,v,rfl,a3⟩;clear y;go_wp2;go_ret;exact⟨t,v,rfl,a3⟩
def ti(s:Lp)(w:WR):∃c w',(convert 9 31 (.string s)).run zQ.prog w=.ok (.slice (some ⟨w.heap.size,0,none⟩) s.size c) w'/\Below w.heap.size w w':=by refine⟨_,_,run_bytes_of_string w 9 31 5 s ((aC 9).tr underlying9) ((aC 31).tr underlying31) ((aC 5).tr underlying5),?_⟩;exact bR.drew.aL lR _
def tj(h:LG W l m dm cr L J)(Q:W.heap[mc]?=ob (aZ l lg back depth) 165)(N:q∈L)(a nonce:Int)(x g:Nat)(j i:Int)(hd:a≠0)(hg:21000<=g)(a1:g<=1000000)(hn:0<=q.2.2.nonce)(G:q.2.2.nonce<4611686018427387905)(X:J.length<100000000){Φ:Ending->K6}(A:∀e w,Φ e w->∃t v,e=.rt (.iface t v))(f:∀w data,LG w l m dm cr (fG L q.2.1 {q.2.2 with nonce:=q.2.2.nonce+1}) (J++[uG q.2.1 q.2.2.nonce])->w.heap[mc]?=ob (aZ l lg back depth) 165->aU [l,q.2.1] [262] W w->Cq 92 #[pq mc 0,.agg (oJ q.1 a x ((g:Int) - 21000) data)] w Φ):
  Cq 52 #[pq mc 0,pq l 0,.agg (fH q.1 a nonce x (g:Int) j i)] W Φ:=by
 have o:Bw W (W.alloc (.ce (fH q.1 a nonce x (g:Int) j i) 43)):=ba;have O:=aM W (.ce (fH q.1 a nonce x (g:Int) j i) 43);have a2:=aG Q;have U:=h.cell0.1;have a5:=aG (h.acc q N);have i1:iw ((g:Int) - 21000)=(g:Int) - 21000:=iW;have z:=US f;have k:=US A;clear f A;go_enter (qz func52),ntmps52;unfold fH;go_wp2_with fail;change Code.wp _ _ _ _ (W.alloc (.ce (fH q.1 a nonce x (g:Int) j i) 43));generalize W.alloc (.cells (fH q.1 a nonce x (g:Int) j i) 43)=w0 at o O⊢;refine rq (fun V=>V.heap[W.heap.size]?=ob (fH q.1 a nonce x (g:Int) j i) 43) O fun c=>?_;refine t1 0 c ?_;refine tV 1 (fun _ d=>bq d 7) c ?_;refine tD 2 10 (.agg (fH q.1 a nonce x (g:Int) j i)) (fun V d=>?_) c ?_
 .have k0:=bq d 0;have k1:=bq d 1;have k2:=bq d 2;have k3:=bq d 3;have k4:=bq d 4;have k5:=bq d 5;have k6:=bq d 6;have k7:=bq d 7;have k8:=bq d 8;have k9:=bq d 9;have a4:=bq d 10;clear d c;unfold fH;go_simp
 refine rA 3 fun K C=>?_;go_simp;apply(sB q.1 a nonce x g j i hd _).mono;rintro e T ⟨rfl,D⟩;go_wp2_with fail;refine C.out _ _ (bk D c) fun c=>?_;refine rA 4 fun K C=>?_;go_simp;refine C.out _ _ c fun c=>?_;refine rA 5 fun K C=>?_;go_simp;refine C.out _ _ c fun c=>?_;refine dn ?_;have u:Bw W T:=o.tr ((Below.refl _ w0).drew.tr D|>.mono o.size);have n:=h.below u;have s:=bk u Q;have B:=ph n N hn G X;have a0:=aG c;have S:=bq c 0;have P:=bq c 1;go_wp2_with fail;apply B.mono;rintro e w2 ⟨rfl,H,r⟩;clear B S P;have b:w2.heap[W.heap.size]?=ob (fH q.1 a nonce x (g:Int) j i) 43:=r.obj c (by show(43:Nat)∉[262];decide) sQ0;have F:w2.heap[mc]?=_:=r.obj s (by show(165:Nat)∉[262];decide) (by have⟨jv,Y,_⟩:=n.lj.ex;simp only[aAx,aAC,or_false,not_or];exact⟨dP s Y dC,dP s (n.acc q N) dC⟩)
 have⟨Z,w3,a3,p⟩:=ti ⟨#[]⟩ w2;have R:=aG b;have S:=bq b 0;have P:=bq b 1;have c3:=bq b 3;have c4:=bq b 4;have c5:=bq b 5;have c6:=bq b 6;have c9:=bq b 9;have E:aU [l,q.2.1] [262] W w3:=aU.tr (.aF u _ _) (aU.tr r (.aF p _ _));have y:=z.out w3 ⟨some ⟨w2.heap.size,0,none⟩,0,Z⟩ (H.below p) (bk p F) E;clear z;unfold oJ at y;go_wp2_with fail;apply y.mono;intro e w4 M;obtain⟨t,v,rfl⟩:=k.out _ _ M;have I:=US M;clear y M k;go_wp2;exact I.out
def tp(b:W.heap[f]?=ob (vT F sv) 225):
  Cq 263 #[pq f 0,vB 0] W fun e w'=>e=.rt (.iface 174 (.agg #[vI F.bP,.string ⟨#[]⟩]))/\Bw W w':=by
 have a:=r6 b;go_enter (qz func263),ntmps263;go_wp2_with fail;apply a.mono;rintro e w1 ⟨rfl,c⟩;go_wp2;go_ret;exact⟨rfl,c⟩
def step_end(x:W.heap[f]?=ob (vT F sv) 225)(i len g:Int)(k:∀w:WR,w.heap[f]?=ob (vT F sv) 225->Cq 261 #[pq f 0] w fun e w'=>e=.rt (vB i)/\Bw w w')(h:∀w:WR,w.heap[f]?=ob (vT F sv) 225->Cq 262 #[pq f 0,vB i] w fun e w'=>e=.rt .nilIface/\w'.heap[f]?=ob (vT {F with bP:=F.bP - g} sv) 225/\aU [f] [] w w')(c:∀w,Cq 147 #[vB i] w fun e w'=>e=.rt (vI len)/\w'=w)(C:0<=F.place)(y:F.place<1000000)(B:0<=len)(E:len<100){z:Fh}{A:vZ}(j:∀w:WR,w.heap[f]?=ob (vT {F with bP:=F.bP - g,next:=F.place+len} sv) 225->Cq 263 #[pq f 0,vB i] w fun e w'=>e=.rt (.iface z A)/\Bw w w'):
  Cq 224 #[pq f 0] W fun e w'=>e=.rt (.iface z A)/\aU [f] [] W w':=by
 have D:iw (F.place+len)=F.place+len:=iW;go_enter (qz func224),ntmps224;go_wp2_with fail;apply(k W x).mono;rintro e w1 ⟨rfl,l⟩;have u:=bk l x;clear k;go_wp2_with fail;apply(h w1 u).mono;rintro e w2 ⟨rfl,a,r⟩;clear h;have m:=bq a 16;have JR:=bq a 17;have s:=aQ a 17;go_wp2_with fail;refine rq (fun V=>V.cA f 16=some (vI F.place)) m fun d=>?_;refine t4 0 1 2 3 d ?_;refine tD 4 20 (vI F.place) (fun V v=>?_) d ?_
 .have G:V.cA f 16=some (vI F.place):=v;clear v d;go_simp
 refine t1 5 d ?_;refine rA 6 fun K p=>?_;go_simp;apply(c _).mono;rintro e H ⟨rfl,n⟩;subst n;go_wp2_with fail;refine p.out _ _ d fun d=>?_;refine t3 7 8 9 d ?_;refine rA 10 fun K p=>?_;go_simp;refine p.out _ _ ((aJ (aO (i:=17) (v:=vI (F.place+len)) a) 16).tr rfl) fun d=>?_;refine dn ?_;clear m JR s c;have o:(w2.sA f 17 (vI (F.place+len))).drew.heap[f]?=ob (vT {F with bP:=F.bP - g,next:=F.place+len} sv) 225:=by have:=aO (i:=17) (v:=vI (F.place+len)) a;rw[ah] at this;exact this
 have q:aU [f] [] W (w2.sA f 17 (vI (F.place+len))).drew:=(((aU.aF l [f] []).tr r).tr (aU.sC w2 f 17 _)).dr;have b:=j _ o;go_wp2_with fail;apply b.mono;rintro e w4 ⟨rfl,t⟩;clear j b;go_wp2;go_ret;exact⟨rfl,q.tr (.aF t _ _)⟩
def tt(E:W.heap[f]?=ob (vT F sv) 225)(i t l g:Int)(p:∀w,Cq 290 #[vB i] w fun e w'=>e=.rt (.tuple #[.agg #[vI t,vI l,vI g],.bool true])/\Bw w w')(m:∀w,Cq 291 #[pq f 0,vB i] w fun e w'=>e=.rt (.tuple #[vI 0,.nilIface])/\w'=w)(v:∀w,Cq 292 #[pq f 0,vB i] w fun e w'=>e=.rt (vI 0)/\w'=w)(C:t<=sv.n)(q:0<=l)(G:(sv.n:Int) - t+l<=1024)(I:0<=g)(D:g<100000)(J:0<=F.bP)(A:F.bP<100000000)(B:g<=F.bP):
  Cq 262 #[pq f 0,vB i] W fun e w'=>e=.rt .nilIface/\w'.heap[f]?=ob (vT {F with bP:=F.bP - g} sv) 225/\aU [f] [] W w':=by
 have O:iw (F.bP - g)=F.bP - g:=iW;have d3:¬F.bP<g:=oM
 have d1:¬(sv.n:Int)<t:=oM
 have d2:¬(1024<(sv.n:Int) - t+l):=oM
 have Q:iw ((sv.n:Int) - t)=(sv.n:Int) - t:=iW;have L:iw ((sv.n:Int) - t+l)=(sv.n:Int) - t+l:=iW;have N:iw g=g:=iW;clear C q G;go_enter (qz func262),ntmps262;go_wp2_with fail;apply(p _).mono;rintro e w1 ⟨rfl,k⟩;clear p;have y:=bk k E;have b:=aT (p:=.ce #[vI t,vI l,vI g] 369) y;have d:=aM w1 (.ce #[vI t,vI l,vI g] 369);have j:Bw W (w1.alloc (.ce #[vI t,vI l,vI g] 369)):=k.tr ((ba).mono k.size);go_wp2_with fail;change Code.wp _ _ _ _ (w1.alloc (.ce #[vI t,vI l,vI g] 369));generalize w1.alloc (.cells #[.int .i64 t,.int .i64 l,.int .i64 g] 369)=w2 at b d j⊢;refine rq (fun V=>V.heap[f]?=ob (vT F sv) 225/\V.heap[w1.heap.size]?=ob #[vI t,vI l,vI g] 369) ⟨b,d⟩ fun a=>?_;refine t3 0 1 2 a ?_;refine tV 3 (fun _ c=>bq c.1 14) a ?_;refine t2 4 5 a ?_;refine tV 6 (fun _ c=>bq c.2 0) a ?_;refine t1 7 a ?_;refine dn ?_;go_wp2_with fail;refine rq (fun V=>V.heap[f]?=ob (vT F sv) 225/\V.heap[w1.heap.size]?=ob #[vI t,vI l,vI g] 369) ⟨b,d⟩ fun a=>?_;refine t3 0 1 2 a ?_;refine tV 3 (fun _ c=>bq c.1 14) a ?_;refine t2 4 5 a ?_;refine tV 6 (fun _ c=>bq c.2 0) a ?_;refine t2 7 8 a ?_;refine tV 9 (fun _ c=>bq c.2 1) a ?_;refine t2 10 11 a ?_;refine dn ?_;go_wp2_with fail;apply(m _).mono;rintro e w4 ⟨rfl,h⟩;clear m;have x:Below W.heap.size W w4:=by rw[h];exact j.drew.drew
 replace b:w4.heap[f]?=ob (vT F sv) 225:=by rw[h];exact b
 replace d:w4.heap[w1.heap.size]?=ob #[vI t,vI l,vI g] 369:=by rw[h];exact d
 clear h j;go_wp2_with fail;refine rq (fun V=>V.heap[f]?=ob (vT F sv) 225/\V.heap[w1.heap.size]?=ob #[vI t,vI l,vI g] 369) ⟨b,d⟩ fun a=>?_;refine t1 0 a ?_;refine tV 1 (fun _ c=>bq c.2 2) a ?_;refine t5 2 3 6 7 8 a ?_;refine tV 9 (fun _ c=>bq c.1 15) a ?_;refine t1 10 a ?_;refine rA 4 fun K s=>?_;go_simp;apply(v _).mono;rintro e R ⟨rfl,u⟩;subst u;go_wp2_with fail;refine s.out _ _ a fun a=>?_;refine t1 5 a ?_;refine rA 11 fun K s=>?_;go_simp;apply(qb _).mono;rintro e P ⟨rfl,u⟩;subst u;go_wp2_with fail;refine s.out _ _ a fun a=>?_;refine t2 12 13 a ?_;refine dn ?_;have H:=bq b 13;have z:=aQ b 13;go_wp2_with fail;have o:(w4.setCell ⟨f,13,none⟩ (vI (F.bP - g))).drew.heap[f]?=ob (vT {F with bP:=F.bP - g} sv) 225:=by have:=aO (i:=13) (v:=vI (F.bP - g)) b;rw[pz] at this;exact this
 have r:aU [f] [] W (w4.setCell ⟨f,13,none⟩ (vI (F.bP - g))).drew:=(aU.tr (.aF x _ _) (aU.setCell w4 f 13 _)).dr;apply(qd (o:=15) o rfl).mono;rintro e M ⟨rfl,n⟩;clear H z;go_wp2;go_ret;exact⟨rfl,bk n o,r.tr (.aF n _ _)⟩
end
section
variable [aB]
def kd:Option Obj->Nat
 |some (.cells _ t _)=>t
 |some (.map _ _)=>1000
 |some (.mapIter _ _ _ _)=>1001
 |_=>2000
def lw(t:Nat):Nat:=if t=225 then aB.b1 else aB.lo t
def Fx(t:Nat):aB.b0<=lw t:=by
 unfold lw;split
 .exact aB.le
 .exact aB.xa t
structure Px (T:K4)(w w':WR):Prop where
 os:w'.os=w.os
 tape:w'.tape=w.tape
 output:w'.output=w.output
 size:w.heap.size<=w'.heap.size
 block:∀k,k<w.heap.size->w'.heap[k]?=w.heap[k]?\/kd w.heap[k]? ∈T/\lw (kd w.heap[k]?)<=k/\kd w'.heap[k]?=kd w.heap[k]?
def Px.refl(T:K4)(w:WR):Px T w w:=⟨rfl,rfl,rfl,aAz _,fun _ _=>.inl rfl⟩
def Px.mono(h:Px T w w')(d:∀t∈T,t∈T'):Px T' w w':=
 ⟨h.os,h.tape,h.output,h.size,fun k c=>(h.block k c).imp id fun⟨a,b⟩=>⟨d _ a,b⟩⟩
def Px.trans(h:Px T w v)(d:Px T v u):Px T w u:=by
 refine⟨d.os.tr h.os,d.tape.tr h.tape,d.output.tr h.output,aAw h.size d.size,fun k g=>?_⟩;have i:=aAy g h.size;rcases h.block k g with e| ⟨a,b,c⟩
 .rcases d.block k i with f|f
  .exact .inl (f.tr e)
  .rw[e] at f;exact .inr f
 .rcases d.block k i with f| ⟨_,_,j⟩
  .exact .inr ⟨a,b,f▸c⟩
  .exact .inr ⟨a,b,j.tr c⟩
def Px.tr(h:Px T w v)(a:Px T v u):Px T w u:=Px.trans h a
def Px.aF{w w':WR}(h:Bw w w')(T:K4):Px T w w':=⟨h.os,h.tape,h.output,h.size,fun k a=>.inl (h.block k a)⟩
def Px.obj(h:Px T w w'){o:Obj}(b:w.heap[k]?=some o)(c:kd (some o)∉T):w'.heap[k]?=some o:=by
 rcases h.block k (aG b) with e| ⟨a,_⟩
 .exact e.tr b
 .rw[b] at a;exact absurd a c
def Px.low(h:Px T w w')(c:k<aB.b0)(a:k<w.heap.size):w'.heap[k]?=w.heap[k]?:=
 (h.block k a).elim id fun⟨_,b,_⟩=>by have:=Fx (kd w.heap[k]?);omega
def aU.px{B:K4}(h:aU B T w w')(l:∀k∈B,k<w.heap.size->kd w.heap[k]? ∈T'/\lw (kd w.heap[k]?)<=k/\kd w'.heap[k]?=kd w.heap[k]?)(b:∀t∈T,t∈T'/\t≠225):Px T' w w':=by
 refine⟨h.os,h.tape,h.output,h.size,fun k a=>?_⟩;by_cases f:k∈B
 .exact .inr (l k f a)
 .rcases h.block k a f with e| ⟨t,c,m,d,g,j,i⟩
  .exact .inl e
  .refine .inr ?_;rw[j,i];exact⟨(b t d).1,by show lw t<=k;rw[lw,if_neg (b t d).2];exact g,rfl⟩
def Cl(l:Nat)(W:WR):
  Cq 51 #[pq l 0] W fun e w'=>e=.rt (pq W.heap.size 0)/\w'.heap[W.heap.size]?=ob (aZ l ⟨none,0,0⟩ 0 0) 165/\Bw W w':=by
 go_enter (qz func51),ntmps51;go_wp2;go_ret;exact⟨rfl,aM W _,ba⟩
def ia(a:W.heap[mc]?=ob (aZ l lg back depth) 165):
  Cq 55 #[pq mc 0] W fun e w'=>e=.rt (vI back)/\w'=W:=by
 have c2:=bq a 2;go_enter (qz func55),ntmps55;go_wp2;go_ret;exact⟨rfl,rfl⟩
def ib(V:WR):(binOp BinOp.eql 32 (Value.slice none 0 0) (Value.slice none 0 0)).run zQ.prog V=.ok (.bool true) V:=kR
def Cm(a:W.heap[mc]?=ob (aZ l ⟨none,0,0⟩ back depth) 165):
  Cq 93 #[pq mc 0] W fun e w'=>e=.rt (.sl none 0 0)/\w'=W:=by
 have c:=bq a 1;have b:=ib;go_enter (qz func93),ntmps93;go_wp2;go_ret;exact⟨rfl,rfl⟩
end
section
theorem pC{a b:Type}(f:a->b):∀(l:List a) (n:Nat),(l.eraseIdx n).map f=(l.map f).eraseIdx n
 | [],_=>rfl
 |_::_,0=>rfl
 |x::l,n+1=>by simp[pC f l n]
section
variable {κ:Type}[DecidableEq κ]
def qO(k:κ):List (κ×vZ)->List (κ×vZ)
 | []=>[]
 |p::l=>if k=p.1 then l else p::qO k l
theorem CV{k:κ}:∀{l:List (κ×vZ)} {i:Nat},cZ k l i=none->qO k l=l
 | [],_,_=>rfl
 |p::l,i,h=>by
  unfold cZ at h;split at h
  .cases h
  .rename_i a;unfold qO;rw[if_neg a,CV h]
theorem CW{k:κ}:∀{l:List (κ×vZ)} {i j:Nat} {x:vZ},cZ k l i=some (j,x)->∃n,j=i+n/\qO k l=l.eraseIdx n
 | [],_,_,_,h=>by cases h
 |p::l,i,j,x,h=>by
  unfold cZ at h;unfold qO;split at h
  .rename_i b;cases h;exact⟨0,rfl,by rw[if_pos b];rfl⟩
  .rename_i a;have⟨n,d,c⟩:=CW h;exact⟨n+1,oM,by rw[if_neg a,c];rfl⟩
def oG{g z mt ty:Fh}{b:κ->vZ}{ok:κ->Prop}(K:Keys g b ok)(t:zQ.prog.underlying mt=some (.map g z)){w:WR}{r:Nat}{l:List (κ×vZ)}{k:κ}(v:cR b w r l)(y:ok k)(A:∀p∈l,ok p.1):
  ∃o,(Builtin.delete_ #[mt,g] ty #[.map (some r),b k]).run zQ.prog w=.ok (.tuple #[]) {w with heap:=w.heap.setIfInBounds r o}/\cR b {w with heap:=w.heap.setIfInBounds r o} r (qO k l):=by
 have⟨c,clock,f,d,i⟩:=v;have q:=K.find k c.toList l w y A d;have e:r<w.heap.size:=(aAu.1 f).1;have a:∀o:Obj,(w.heap.setIfInBounds r o)[r]?=some o:=fun o=>by simp[e]
 have m:(getObj r).run zQ.prog w=.ok (.map c clock) w:=by simp[getObj,Sem.run,f]
 have s:∀o:Obj,(setObj r o).run zQ.prog w=.ok () {w with heap:=w.heap.setIfInBounds r o}:=fun o=>by simp[setObj,Sem.run,f]
 unfold Builtin.delete_;cases h:cZ k l 0 with
 |none=>
  refine⟨.map c clock,?_,_,_,a _,by rw[CV h];exact d,i⟩;simp[run_underlying t,m,s,K.ZU,q,h]
 |some p=>
  have⟨j,x⟩:=p;have⟨n,C,u⟩:=CW h;obtain rfl:j=n:=oM
  refine⟨.map (c.eraseIdxIfInBounds j) clock,?_,_,_,a _,?_,?_⟩
  .simp[run_underlying t,m,s,K.ZU,q,h]
  .rw[u];unfold Reads at d⊢;rw[aCR,pC,d,pC]
  .rw[aCR];exact⟨fun x B=>i.1 x (List.mem_of_mem_eraseIdx B),by rw[pC];exact i.2.sublist (List.eraseIdx_sublist _ _)⟩
end
def iV:List (Nat×Nat)->Nat->Nat
 | [],_=>0
 |p::l,k=>if k=p.1 then p.2 else iV l k
def sF(k v:Nat):List (Nat×Nat)->List (Nat×Nat)
 | []=>[(k,v)]
 |p::l=>if k=p.1 then(k,v)::l else p::sF k v l
def BK(k:Nat):List (Nat×Nat)->List (Nat×Nat)
 | []=>[]
 |p::l=>if k=p.1 then l else p::BK k l
theorem uI(k:Nat):∀(sl:List (Nat×Nat)) (i:Nat),(cZ k (slotL sl) i).elim (wd 0) (·.2)=wd (iV sl k)
 | [],_=>rfl
 |p::l,i=>by
  show(cZ k ((p.1,wd p.2)::slotL l) i).elim (wd 0) (·.2)=wd (if k=p.1 then p.2 else iV l k);unfold cZ;split
  .rfl
  .exact uI k l (i+1)
theorem JD(k v:Nat):∀sl:List (Nat×Nat),kG k (wd v) (slotL sl)=slotL (sF k v sl)
 | []=>rfl
 |p::l=>by
  show kG k (wd v) ((p.1,wd p.2)::slotL l)=slotL (if k=p.1 then(k,v)::l else p::sF k v l);unfold kG;split
  .rfl
  .rw[JD k v l];rfl
theorem JE(k:Nat):∀sl:List (Nat×Nat),qO k (slotL sl)=slotL (BK k sl)
 | []=>rfl
 |p::l=>by
  show qO k ((p.1,wd p.2)::slotL l)=slotL (if k=p.1 then l else p::BK k l);unfold qO;split
  .rfl
  .rw[JE k l];rfl
def sG{sl:List (Nat×Nat)}(h:∀p∈sl,p.1<M/\p.2<M):∀p∈slotL sl,p.1<M:=fun p a=>by obtain⟨r,b,rfl⟩:=aAJ.1 a;exact(h r b).1
def QP{sl:List (Nat×Nat)}(h:∀p∈sl,p.1<M/\p.2<M)(k:Nat):iV sl k<M:=by
 induction sl with
 |nil=>show 0<M;decide
 |cons p l b=>
  unfold iV;split
  .exact(h p aAQ).2
  .exact b fun q a=>h q (aAR _ a)
def ak:zQ.prog.underlying 133=some (.map 41 41):=(aC 133).tr underlying133
def P7(b e g f c h d a:vZ)(W:WR):(Instr.field 136 (.agg #[b,e,g,f,c,h,d,a]) 4).run zQ.prog W=.ok a W:=kR
variable [aB]
attribute [local go_sem] wd
end
section
open Go.MapKept Go.ChangeMaps
variable [aB]
def OC:zQ.prog.underlying 125=some (.map 3 179):=(aC 125).tr underlying125
def yS{d:Type}{e:d->vZ}{g ty:Fh}(f:zQ.prog.underlying mt=some (.map g et)){r:Nat}{l:List (d×vZ)}(i:cR e w r l):
  ∃o,(Builtin.clear_ #[mt] ty #[.map (some r)]).run zQ.prog w=.ok (.tuple #[]) {w with heap:=w.heap.setIfInBounds r o}/\cR e {w with heap:=w.heap.setIfInBounds r o} r []:=by
 have⟨j,clock,c,m,n⟩:=i;have b:r<w.heap.size:=(aAu.1 c).1;have a:∀o:Obj,(w.heap.setIfInBounds r o)[r]?=some o:=fun o=>by simp[b]
 have k:(getObj r).run zQ.prog w=.ok (.map j clock) w:=by simp[getObj,Sem.run,c]
 have h:∀o:Obj,(setObj r o).run zQ.prog w=.ok () {w with heap:=w.heap.setIfInBounds r o}:=fun o=>by simp[setObj,Sem.run,c]
 refine⟨.map #[] clock,?_,#[],clock,a _,rfl,by simp[uF]⟩;unfold Builtin.clear_;simp[run_underlying f,k,h]
def aU.qP(w:WR)(r:Nat)(o:Obj):aU [r] [] w {w with heap:=w.heap.setIfInBounds r o}:=
 ⟨rfl,rfl,rfl,sI,fun k _ a=>.inl (aAH (fun e=>a (by simp[e])))⟩
def wV(h:cR (fun x:Int=>Value.int .i64 x) W b (IW [])):∃clock,W.heap[b]?=some (.map #[] clock):=by
 have⟨c,clock,d,a,_⟩:=h;refine⟨clock,?_⟩;have:c.toList=[]:=by have:=congrArg List.length a;simpa[IW] using this
 rw[d];congr 2;exact Array.toList_eq_nil_iff.1 this
def JF{a:Nat}(h:LG W l m ⟨a,[]⟩ cr L J):
  Cq 56 #[pq l 0] W fun e w'=>e=rU/\LG w' l m ⟨a,[]⟩ cr L []/\aU [l,a] [] W w':=by
 have⟨clock,b⟩:=wV h.iZ;have⟨Q,j,F⟩:=h.lj.ex;have s:Bw W (W.alloc (.mapIter (some a) clock #[] clock)):=ba;have A:=run_range_map (P:=zQ.prog) W 125 3 179 a #[] clock OC b;have M:=fQ.start b (by simp[uF]);have P:=aG b;have N:(Instr.next (pq W.heap.size 0) false 0).run zQ.prog (W.alloc (.mapIter (some a) clock #[] clock))=.ok (.tuple #[.bool false]) (W.alloc (.mapIter (some a) clock #[] clock)):=by
  rcases M.next oM 0 with⟨_,D⟩| ⟨e,_,w,_⟩
  .exact D
  .simp at w
 have c3:=bq j 3;have v:(W.alloc (.mapIter (some a) clock #[] clock)).heap[l]?=_:=aT j;have d3:=bq v 3;have⟨o,y,G⟩:=yS (ty:=0) OC (h.iZ.below s);have I:=aG j;have n:l≠a:=dS j b (fun e=>by cases e);have d:({(W.alloc (.mapIter (some a) clock #[] clock)) with heap:=(W.alloc (.mapIter (some a) clock #[] clock)).heap.setIfInBounds a o}:WR).heap[l]?=_:=(aAH (Ne.symm n)).tr v;have u:=(aU.aF s [a] []).tr (aU.qP (W.alloc (.mapIter (some a) clock #[] clock)) a o);generalize K:({(W.alloc (.mapIter (some a) clock #[] clock)) with heap:=(W.alloc (.mapIter (some a) clock #[] clock)).heap.setIfInBounds a o}:WR)=w2 at y G d u;have R:=aQ d 2;have c2:=bq d 2;go_enter (qz func56),ntmps56;go_wp2_with fail;refine wp_loop_rounds 1 ?_;rw[rounds_succ];go_wp2;simp[bodyPost,results,results56,go_sem];have g:aU [l,a] [] W (w2.setCell ⟨l,2,none⟩ (.sl none 0 0)):=(u.mono (fun k _ p=>by simp at p;simp[p]) (fun t B=>B)).tr ((aU.setCell w2 l 2 _).mono (fun k _ p=>by simp at p;simp[p]) (fun t B=>B));have f:∀{C:Type} {E:C->vZ} {r:Nat} {x:List (C×vZ)},cR E W r x->r≠a->cR E (w2.setCell ⟨l,2,none⟩ (.sl none 0 0)) r x:=fun{C E r x} H O=>by
  obtain⟨z,c,w⟩:∃z c,W.heap[r]?=some (.map z c):=let⟨z,c,D,_⟩:=H;⟨z,c,D⟩
  refine H.same ((g.obj w trivial ?_).tr w.symm);simp only[aAx,aAC,or_false,not_or];exact⟨dS w j (fun e=>by cases e),O⟩
 refine⟨⟨⟨h.lj.lo,⟨none,0,0⟩,aO d,rfl,.inl ⟨rfl,rfl⟩⟩,f h.map h.UO,G.same (heap_setCell_other w2 ⟨l,2,none⟩ a _ (Ne.symm n)),fun q i=>g.obj (h.acc q i) (by simp[qB]) ?_,fun q i=>f (h.slot q i) (h.MA q i).2,h.nd,h.AJ,h.bal,h.key,h.IX,h.UN,h.MA,h.UO,h.pf,h.lo,h.wT⟩,g⟩;simp only[aAx,aAC,or_false,not_or];exact⟨dP (h.acc q i) j dC,dS (h.acc q i) b (fun e=>by cases e)⟩
end
section
variable [aB]
attribute [local go_sem] wd
def qi(h:(L.map (·.2.2.ms)).Nodup)(i:p∈L)(b:q∈L)(e:p.2.2.ms=q.2.2.ms):p=q:=by
 induction L with
 |nil=>cases i
 |cons r L j=>
  have g:=aBt.1 h;rcases aAx.1 i with c|a
  .subst c;rcases aAx.1 b with rfl|b
   .rfl
   .exact absurd (show p.2.2.ms∈L.map (·.2.2.ms) by rw[e];exact aAI (f:=fun x:Int×Nat×Ac=>x.2.2.ms) b) g.1
  .rcases aAx.1 b with d|f
   .subst d;exact absurd (show q.2.2.ms∈L.map (·.2.2.ms) by rw[<-e];exact aAI (f:=fun x:Int×Nat×Ac=>x.2.2.ms) a) g.1
   .exact j g.2 a f
def LG.Ly{j:WR}{z:K3}{T:List Fh}(h:LG W l m dm cr L J)(f:q∈L){sl:List (Nat×Nat)}(y:LJ j l m cr dm.b z)(D:cR wd j q.2.2.ms (slotL sl))(A:aU [l,q.2.2.ms] T W j)(E:136∉T)(n:∀p∈sl,p.1<M/\p.2<M)(lY:(sl.map (·.1)).Nodup):LG j l m dm cr (fG L q.2.1 {q.2.2 with sl:=sl}) z:=by
 have⟨G,B,_⟩:=h.lj.ex;have⟨I,H,u,_⟩:=h.slot q f;have v:∀{s:Type} {t:s->vZ} {r:Nat} {x:List (s×vZ)},cR t W r x->r≠q.2.2.ms->cR t j r x:=fun{s t r x} C d=>by
  obtain⟨o,c,w⟩:∃o c,W.heap[r]?=some (.map o c):=let⟨o,c,F,_⟩:=C;⟨o,c,F⟩
  refine C.same ((A.obj w trivial ?_).tr w.symm);simp only[aAx,aAC,or_false,not_or];exact⟨dS w B (fun e=>by cases e),d⟩
 have b:∀p∈fG L q.2.1 {q.2.2 with sl:=sl},(p=(q.1,q.2.1,{q.2.2 with sl:=sl}))\/(p∈L/\p.2.1≠q.2.1):=fun p a=>by
  obtain⟨r,d,rfl⟩:=aAJ.1 a;split
  .rename_i e;have:=oE h.AJ d f e;subst this;exact .inl rfl
  .rename_i i;exact .inr ⟨d,i⟩
 have k:(fG L q.2.1 {q.2.2 with sl:=sl}).map (·.2.2.ms)=L.map (·.2.2.ms):=by
  unfold fG;rw[aAS];refine aBO fun r d=>?_;simp only[Function.comp];split
  .rename_i e;have:=oE h.AJ d f e;subst this;rfl
  .rfl
 have g:∀p∈L,j.heap[p.2.1]?=ob (cG p.2.2) 136:=fun p a=>A.obj (h.acc p a) E (by simp only[aAx,aAC,or_false,not_or];exact⟨dP (h.acc p a) B dC,dS (h.acc p a) u (fun e=>by cases e)⟩)
 refine⟨y,by rw[IZ];exact v h.map (fun e=>(h.MA q f).1 e.symm),v h.iZ (fun e=>(h.MA q f).2 e.symm),fun p a=>?_,fun p a=>?_,by rw[lU];exact h.nd,by rw[JA];exact h.AJ,fun p a=>?_,fun p a=>?_,fun p a=>?_,by rw[k];exact h.UN,fun p a=>?_,h.UO,h.pf,fun p a=>?_,h.wT⟩
 .rcases b p a with rfl| ⟨d,_⟩
  .exact g q f
  .exact g p d
 .rcases b p a with rfl| ⟨d,i⟩
  .exact D
  .exact v (h.slot p d) (fun e=>i (by rw[qi h.UN d f e]))
 .rcases b p a with rfl| ⟨d,_⟩
  .exact h.bal q f
  .exact h.bal p d
 .rcases b p a with rfl| ⟨d,_⟩
  .exact n
  .exact h.key p d
 .rcases b p a with rfl| ⟨d,_⟩
  .exact lY
  .exact h.IX p d
 .rcases b p a with rfl| ⟨d,_⟩
  .exact h.MA q f
  .exact h.MA p d
 .rcases b p a with rfl| ⟨d,_⟩
  .exact h.lo q f
  .exact h.lo p d
theorem sJ{v:Nat}:∀{sl:List (Nat×Nat)} {p:Nat×Nat},p∈sF k v sl->p=(k,v)\/p∈sl
 | [],p,h=>.inl (aAB.1 h)
 |r::l,p,h=>by
  unfold sF at h;split at h
  .rcases aAx.1 h with rfl|h
   .exact .inl rfl
   .exact .inr (aAR _ h)
  .rcases aAx.1 h with rfl|h
   .exact .inr aAQ
   .exact(sJ h).imp id (aAR _)
theorem QQ{v:Nat}:∀{sl:List (Nat×Nat)},(sl.map (·.1)).Nodup->((sF k v sl).map (·.1)).Nodup
 | [],_=>by simp[sF]
 |r::l,h=>by
  have c:=aBt.1 h;unfold sF;split
  .rename_i e;subst e;exact h
  .rename_i b;refine aBt.2 ⟨fun d=>?_,QQ c.2⟩;have⟨p,a,e⟩:=aAJ.1 d;rcases sJ a with rfl|a
   .exact b e
   .replace e:p.1=r.1:=e;exact c.1 (by show r.1∈l.map (·.1);rw[<-e];exact aAI a)
theorem sM:∀sl:List (Nat×Nat),(BK k sl).Sublist sl
 | []=>.slnil
 |r::l=>by
  unfold BK;split
  .exact List.sublist_cons_self _ _
  .exact(sM l).cons_cons _
def qj(t:W.heap[b]?=ob (cG a) 136)(r:cR wd W a.ms (slotL a.sl))(m:∀p∈a.sl,p.1<M/\p.2<M)(k:Nat)(u:k<M)(v:Nat)(A:v<M)(s:v≠0):
   Cq 340 #[pq b 0,wd k,wd v] W fun e w'=>e=rU/\cR wd w' a.ms (slotL (sF k v a.sl))/\aU [a.ms] [] W w':=by
 have y:=wP v A;rw[decide_eq_false s] at y;have f:Bw W ((W.alloc (.ce (wq k) 41)).alloc (.ce (wq v) 41)):=(ba).tr ((ba).mono sI);have i:((W.alloc (.ce (wq k) 41)).alloc (.ce (wq v) 41)).heap[W.heap.size]?=ob (wq k) 41:=aT (aM W _);have j:((W.alloc (.ce (wq k) 41)).alloc (.ce (wq v) 41)).heap[W.heap.size+1]?=ob (wq v) 41:=by have:=aM (W.alloc (.ce (wq k) 41)) (.ce (wq v) 41);simpa using this
 have n:cR wd ((W.alloc (.ce (wq k) 41)).alloc (.ce (wq v) 41)) a.ms (slotL a.sl):=r.below f;have q:((W.alloc (.ce (wq k) 41)).alloc (.ce (wq v) 41)).heap[b]?=_:=bk f t;have h:b≠a.ms/\W.heap.size≠a.ms/\W.heap.size+1≠a.ms:=by have C:=r.lt;have⟨D,c,B,_⟩:=r;exact⟨dS t B (fun e=>by cases e),oM,oM⟩
 go_enter (qz func340),ntmps340;go_wp2_with fail;change Code.wp _ _ _ _ ((W.alloc (.ce (wq k) 41)).alloc (.ce (wq v) 41));generalize((W.alloc (.cells (wq k) 41)).alloc (.cells (wq v) 41))=w at f i j n q⊢;refine rq (fun V=>V.heap[b]?=ob (cG a) 136/\V.heap[W.heap.size]?=ob (wq k) 41/\V.heap[W.heap.size+1]?=ob (wq v) 41) ⟨q,i,j⟩ fun g=>?_;refine t3 0 1 2 g ?_;refine tV 3 (fun _ l=>bq (l.1) 7) g ?_;refine tV 4 (fun _ l=>q4 (l.2.1)) g ?_;refine tV 5 (fun _ l=>q4 (l.2.2)) g ?_;refine rA 6 fun K x=>?_;go_simp;refine gH gT ak (k:=k) (v:=wd v) n u (sG m) fun z o=>?_;have d:=aU.qP w.drew a.ms z
 skip
 refine x.out _ _ ⟨d.obj g.1 (by show(136:Nat)∉[];simp) (by simpa using h.1),d.obj g.2.1 (by show(41:Nat)∉[];simp) (by simpa using h.2.1),d.obj g.2.2 (by show(41:Nat)∉[];simp) (by simpa using h.2.2)⟩ fun g=>?_;refine dn ?_;show bodyPost zQ.prog f340 _ Exit.normal _ _;simp[bodyPost,results,results340,go_sem];rw[JD] at o;exact⟨o,(aU.aF f.drew _ _).tr d⟩
def qk(t:W.heap[b]?=ob (cG a) 136)(r:cR wd W a.ms (slotL a.sl))(m:∀p∈a.sl,p.1<M/\p.2<M)(k:Nat)(x:k<M)(v:Nat)(h:v=0):
   Cq 340 #[pq b 0,wd k,wd v] W fun e w'=>e=rU/\cR wd w' a.ms (slotL (BK k a.sl))/\aU [a.ms] [] W w':=by
 have z:=wP v (by rw[h];decide);rw[decide_eq_true h] at z;clear h;have f:Bw W ((W.alloc (.ce (wq k) 41)).alloc (.ce (wq v) 41)):=(ba).tr ((ba).mono sI);have j:((W.alloc (.ce (wq k) 41)).alloc (.ce (wq v) 41)).heap[W.heap.size]?=ob (wq k) 41:=aT (aM W _);have l:((W.alloc (.ce (wq k) 41)).alloc (.ce (wq v) 41)).heap[W.heap.size+1]?=ob (wq v) 41:=by have:=aM (W.alloc (.ce (wq k) 41)) (.ce (wq v) 41);simpa using this
 have n:cR wd ((W.alloc (.ce (wq k) 41)).alloc (.ce (wq v) 41)) a.ms (slotL a.sl):=r.below f;have q:((W.alloc (.ce (wq k) 41)).alloc (.ce (wq v) 41)).heap[b]?=_:=bk f t;have g:b≠a.ms/\W.heap.size≠a.ms/\W.heap.size+1≠a.ms:=by have C:=r.lt;have⟨D,c,B,_⟩:=r;exact⟨dS t B (fun e=>by cases e),oM,oM⟩
 go_enter (qz func340),ntmps340;go_wp2_with fail;change Code.wp _ _ _ _ ((W.alloc (.ce (wq k) 41)).alloc (.ce (wq v) 41));generalize((W.alloc (.cells (wq k) 41)).alloc (.cells (wq v) 41))=u at f j l n q⊢;refine rq (fun V=>V.heap[b]?=ob (cG a) 136/\V.heap[W.heap.size]?=ob (wq k) 41/\V.heap[W.heap.size+1]?=ob (wq v) 41) ⟨q,j,l⟩ fun i=>?_;refine t3 0 1 2 i ?_;refine tV 3 (fun _ s=>bq (s.1) 7) i ?_;refine tV 4 (fun _ s=>q4 (s.2.1)) i ?_;refine rA 5 fun K y=>?_;have⟨A,w,o⟩:=oG (ty:=0) gT ak (w:=u.drew) n x (sG m);go_simp;have d:=aU.qP u.drew a.ms A;refine y.out _ _ ⟨d.obj i.1 (by show(136:Nat)∉[];simp) (by simpa using g.1),d.obj i.2.1 (by show(41:Nat)∉[];simp) (by simpa using g.2.1),d.obj i.2.2 (by show(41:Nat)∉[];simp) (by simpa using g.2.2)⟩ fun i=>?_;refine dn ?_;go_wp2;simp[bodyPost,results,results340,go_sem];rw[JE] at o;exact⟨o,(aU.aF f.drew _ _).tr d⟩
def QR(b k x:Nat):vZ:=.iface 399 (.agg #[pq b 0,.int .u64 (aI k 0),.int .u64 (aI k 1),.int .u64 (aI k 2),.int .u64 (aI k 3),.int .u64 (aI x 0),.int .u64 (aI x 1),.int .u64 (aI x 2),.int .u64 (aI x 3)])
def Fy(k:Int):vZ:=.iface 210 (.agg #[.int .i64 k])
def UT(i:Nat):aI 0 i=0:=by simp[aI]
def ql(w:WR):(Instr.makeMap mt none).run zQ.prog w=.ok (.map (some w.heap.size)) (w.alloc (.map #[] 0)):=by unfold Instr.makeMap;simp
def CY(h:LG W l m dm cr L J)(k:Int)(n:k∉L.map (·.1))(hJ:J.length<100000000):
  Cq 87 #[pq l 0,vI k] W fun e w'=>e=.rt (pq (W.heap.size+1) 0)/\LG w' l m dm cr (L++[(k,W.heap.size+1,⟨0,0,⟨#[]⟩,⟨none,0,0⟩,W.heap.size,[]⟩)]) (J++[Fy k])/\aU [l,m] [262] W w':=by
 have hl:=h.NZ n (W':=W) rfl;have⟨P,hc⟩:=h.cell0;have V:=fun W=>ql (mt:=133) W;have v:Bw W ((W.alloc (.map #[] 0)).alloc (.ce (cG ⟨0,0,⟨#[]⟩,⟨none,0,0⟩,W.heap.size,[]⟩) 136)):=(ba).alloc sI _;have d:=h.below v;have B:=d.cell0.2;have A:cR wd ((W.alloc (.map #[] 0)).alloc (.ce (cG ⟨0,0,⟨#[]⟩,⟨none,0,0⟩,W.heap.size,[]⟩) 136)) W.heap.size []:=(cR.new wd W).below ba;have w:((W.alloc (.map #[] 0)).alloc (.ce (cG ⟨0,0,⟨#[]⟩,⟨none,0,0⟩,W.heap.size,[]⟩) 136)).heap[W.heap.size+1]?=ob (cG ⟨0,0,⟨#[]⟩,⟨none,0,0⟩,W.heap.size,[]⟩) 136:=by have:=aM (W.alloc (.map #[] 0)) (.ce (cG ⟨0,0,⟨#[]⟩,⟨none,0,0⟩,W.heap.size,[]⟩) 136);simpa using this
 have a3:=h.map.lt;have a4:=h.iZ.lt;have a0:aB.b0<=W.heap.size:=aAw h.lj.lo (aBQ P);go_enter (qz func87),ntmps87;unfold cG at v d B A w;simp only[UT] at v d B A w;go_wp2_with fail;refine gH pg UP (k:=k) (v:=pq (W.heap.size+1) 0) d.map trivial (fun _ _=>trivial) fun o' s=>?_;have X:k∉(ids L).map (·.1):=fun hm=>n (by rw[show(ids L).map (·.1)=L.map (·.1) by unfold ids;rw[aAS];rfl] at hm;exact hm);rw[nZ _ _ _ X] at s;have j:=aU.qP ((((W.alloc (.map #[] 0)).alloc (.ce (cG ⟨0,0,⟨#[]⟩,⟨none,0,0⟩,W.heap.size,[]⟩) 136))):WR) m o';unfold cG at j;simp only[UT] at j;generalize a2:((W.alloc (.map #[] 0)).alloc (.cells #[.int .u64 0,.int .u64 0,.int .u64 0,.int .u64 0,.int .i64 0,.string ⟨#[]⟩,.slice none 0 0,.map (some W.heap.size)] 136))=w1 at v d B A w s j⊢;generalize({w1 with heap:=w1.heap.setIfInBounds m o'}:WR)=w2 at s j⊢;have⟨jv,G,C⟩:=d.lj.ex;obtain⟨a5,a6,Y⟩:∃F c,w1.heap[m]?=some (.map F c):=let⟨F,c,S,_⟩:=d.map;⟨F,c,S⟩
 have u:∀{R:Type} {T:R->vZ} {r:Nat} {x:List (R×vZ)},cR T w1 r x->r≠m->cR T w2 r x:=fun{R T r x} z hr=>by
  obtain⟨F,c,he⟩:∃F c,w1.heap[r]?=some (.map F c):=let⟨F,c,S,_⟩:=z;⟨F,c,S⟩
  exact z.same ((j.obj he trivial (by simpa using hr)).tr he.symm)
 have i:∀{b:Nat} {c:Ff} {t:Fh} {f:Nat×Nat},w1.heap[b]?=some (.cells c t f)->w2.heap[b]?=some (.cells c t f):=fun{b c t f} hb=>j.obj hb (by simp[qB]) (by simpa using dS hb Y (fun e=>by cases e));have N:LG w2 l m dm cr (L++[(k,W.heap.size+1,⟨0,0,⟨#[]⟩,⟨none,0,0⟩,W.heap.size,[]⟩)]) J:=by
  have D:∀q∈L,q.2.1<W.heap.size/\q.2.2.ms<W.heap.size:=fun q a=>⟨aG (h.acc q a),(h.slot q a).lt⟩;refine⟨⟨h.lj.lo,jv,i G,dM C fun g hg=>?_⟩,?_,u d.iZ (Ne.symm h.UO),fun q a=>?_,fun q a=>?_,?_,?_,fun q a=>?_,fun q a p U=>?_,fun q a=>?_,?_,fun q a=>?_,h.UO,h.pf,fun q a=>?_,h.wT⟩
  .have⟨a1,E⟩:=cL C g hg;exact(i E).tr E.symm
  .have e:ids (L++[(k,W.heap.size+1,⟨0,0,⟨#[]⟩,⟨none,0,0⟩,W.heap.size,[]⟩)])=ids L++[(k,pq (W.heap.size+1) 0)]:=by unfold ids;rw[aBc];rfl
   rw[e];exact s
  .rcases aAL.1 a with a|a
   .exact i (d.acc q a)
   .rw[aAB.1 a];show w2.heap[W.heap.size+1]?=ob (cG ⟨0,0,⟨#[]⟩,⟨none,0,0⟩,W.heap.size,[]⟩) 136;unfold cG;simp only[UT];exact i w
  .rcases aAL.1 a with a|a
   .exact u (d.slot q a) (h.MA q a).1
   .rw[aAB.1 a];exact u A (by show W.heap.size≠m;omega)
  .rw[aBc,aBv];refine⟨h.nd,sI,fun x z y H e=>?_⟩;simp at H;rw[e,H] at z;exact n z
  .rw[aBc,aBv];refine⟨h.AJ,sI,fun x z y H e=>?_⟩;obtain⟨q,a,rfl⟩:=aAJ.1 z;simp at H;have:=(D q a).1;omega
  .rcases aAL.1 a with a|a
   .exact h.bal q a
   .rw[aAB.1 a];show 0<M;decide
  .rcases aAL.1 a with a|a
   .exact h.key q a p U
   .rw[aAB.1 a] at U;cases U
  .rcases aAL.1 a with a|a
   .exact h.IX q a
   .rw[aAB.1 a];exact aCZ
  .rw[aBc,aBv];refine⟨h.UN,sI,fun x z y H e=>?_⟩;obtain⟨q,a,rfl⟩:=aAJ.1 z;simp at H;have:=(D q a).2;omega
  .rcases aAL.1 a with a|a
   .exact h.MA q a
   .rw[aAB.1 a];show W.heap.size≠m/\W.heap.size≠dm.b;omega
  .rcases aAL.1 a with a|a
   .exact h.lo q a
   .rw[aAB.1 a];show aB.b0<=W.heap.size+1/\aB.b0<=W.heap.size;omega
 have I:=note l m cr dm.b J 210 (.agg #[vI k]) _ N.lj hJ;have Z:aU [l,m] [262] W w2:=(aU.aF v _ _).tr (j.mono (fun k _ n=>by simp at n;simp[n]) (fun t Q=>by cases Q));clear s B hc hl V;go_wp2_with fail;apply I.mono;rintro e w3 ⟨rfl,O,K⟩;clear I;go_wp2;go_ret;refine⟨rfl,N.jA O K dC (fun k n o ho=>?_),Z.tr (K.mono (fun k _ n=>by simp at n;simp[n]) (fun t Q=>Q))⟩;obtain rfl:k=l:=by simpa using n
 rw[i G] at ho;cases ho;exact⟨_,_,_,rfl,dC⟩
def OR:∃i z,zQ.prog.info? 95=some i/\i.zero=some z/\i.size=6/\i.bytes=56/\z.cells.size=6:=by
 obtain⟨i,d⟩:∃i,zQ.prog.info? 95=some i:=by
  cases h:zQ.prog.info? 95 with
  |none=>have:=congrArg Option.isSome h;rw[show(zQ.prog.info? 95).isSome=true by kernel_rfl] at this;cases this
  |some i=>exact⟨i,rfl⟩
 have e8:(zQ.prog.info? 95).map (·.size)=some 6:=kR
 have a:(zQ.prog.info? 95).map (·.bytes)=some 56:=kR
 have b:((zQ.prog.info? 95).bind (·.zero)).map (·.cells.size)=some 6:=kR
 rw[d] at e8 a b;simp only[aAX,aAF,aCO] at e8 a b;cases c:i.zero with
 |none=>rw[c] at b;cases b
 |some z=>rw[c] at b;exact⟨i,z,d,c,e8,a,by simpa using b⟩
end
end Go.Mark
