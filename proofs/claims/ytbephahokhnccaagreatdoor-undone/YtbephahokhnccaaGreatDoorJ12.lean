import Derived.Test.YtbephahokhnccaaGreatDoorJ11
set_option linter.all false
set_option maxRecDepth 100000
set_option maxHeartbeats 4000000
namespace Go.Mark
open Go.RowKit Go.Proofs Go.Proofs.Tryz
variable{L:AL}{A A':AM}{a:Act}{v:Av}{dm:Dm}{cr i:Int}{T S:K4}{J X J' xs:K3}{l m d b f c' c n e n' k:Nat}{o:Oper}{s x:Operand}{P:K5}{sv mv mk:SV}{ty t u:Fh}{y z:vZ}{W W' w w':WR}{F:fC}
section
variable [aB]
attribute [local go_sem] wd
theorem JG(k v:Nat):∀sl:List (Nat×Nat),iV (sF k v sl)=yX (iV sl) k v
 | []=>by funext j;simp[sF,iV,yX]
 |p::l=>by
  funext j;have a:=congrFun (JG k v l) j;unfold yX at a⊢;by_cases h:k=p.1
  .by_cases e:j=k
   .simp[sF,iV,<-h,e]
   .simp[sF,iV,<-h,e]
  .simp only[sF,if_neg h,iV,a];by_cases e:j=p.1
   .rw[if_pos e,if_neg (fun x=>h (x.symm.tr e)),if_pos e]
   .simp[e]
theorem FU:∀{sl:List (Nat×Nat)},k∉sl.map (·.1)->iV sl k=0
 | [],_=>rfl
 |p::l,h=>by simp only[aBl,aAx,not_or] at h;simp only[iV,if_neg h.1];exact FU h.2
theorem JH(k:Nat):∀{sl:List (Nat×Nat)},(sl.map (·.1)).Nodup->iV (BK k sl)=yX (iV sl) k 0
 | [],_=>by funext j;simp[BK,iV,yX]
 |p::l,h=>by
  have b:=aBt.1 h;funext j;have a:=congrFun (JH k b.2) j;unfold yX at a⊢;by_cases h:k=p.1
  .simp only[BK,if_pos h,iV];by_cases e:j=k
   .rw[if_pos e,e,h];exact FU b.1
   .rw[if_neg e,if_neg (fun x=>e (x.tr h.symm))]
  .simp only[BK,if_neg h,iV,a];by_cases e:j=p.1
   .rw[if_pos e,if_neg (fun x=>h (x.symm.tr e)),if_pos e]
   .simp[e]
def LF.L1{D:K7}(h:LF W l m d cr A D J)(i:Int)(k:Nat):(gt A i).sl k<M:=by
 obtain⟨L,dl,h,rfl,_⟩:=h;unfold gt;cases c:am L i with
 |none=>show(0:Nat)<M;decide
 |some x=>
  obtain⟨q,a,rfl,e,b⟩:=fR (b:=x.1) (v:=x.2) c;show x.2.sl k<M;rw[<-b];exact QP (h.key q a) k
def LF.P8{D:K7}(h:LF W l m d cr A D J)(i:Int)(k:Nat)(a:k<M):(Instr.lookup 133 (.map (mp A i)) (wd k) false).run zQ.prog W=.ok (wd ((gt A i).sl k)) W:=by
 obtain⟨L,dl,h,rfl,_⟩:=h;unfold gt mp;have c:∀w,(zeroValue 41).run zQ.prog w=.ok (wd 0) w:=fun w=>(aK 41 w).tr ((zeroValue41 w).tr (by simp[wd,aI]));cases g:am L i with
 |none=>
  unfold Instr.lookup;have f:=gT.find k [] [] W a (fun _ h=>by cases h) (by constructor);simp[run_underlying ak,c,gT.ZU,f,cZ]
 |some x=>
  obtain⟨q,b,rfl,j,e⟩:=fR (b:=x.1) (v:=x.2) g;have:=mQ gT ak (k:=k) (z:=wd 0) (h.slot q b).FL a (sG (h.key q b)) c;rw[uI] at this;show(Instr.lookup 133 (.map (some x.2.ms)) (wd k) false).run zQ.prog W=.ok (wd (x.2.sl k)) W;rw[<-e];exact this
def F3{D:K7}(h:LF W l m d cr A D J)(i:Int)(k:Nat)(z:k<M):
   Cq 329 #[pq l 0,vI i,wd k] W fun e w'=>e=.returned (wd ((gt A i).sl k))/\Bw W w':=by
 have c:Bw W ((W.alloc (.cells (wq k) 41)).alloc (.cells wz 41)):=(ba).trans ((ba).mono sI);have u:=h.below c;have j:((W.alloc (.cells (wq k) 41)).alloc (.cells wz 41)).heap[W.heap.size]?=ob (wq k) 41:=aT (aM W _);have f:((W.alloc (.cells (wq k) 41)).alloc (.cells wz 41)).heap[W.heap.size+1]?=ob wz 41:=by have:=aM (W.alloc (.cells (wq k) 41)) (.cells wz 41);simpa using this
 go_enter (qz func329),Tryz.ntmps329;go_wp2_with fail;change Code.wp _ _ _ _ ((W.alloc (.cells (wq k) 41)).alloc (.cells wz 41));generalize((W.alloc (.cells (wq k) 41)).alloc (.cells wz 41))=B at c u j f⊢;refine rq (fun V=>V.heap[W.heap.size]?=ob (wq k) 41) j fun a=>?_;refine t2 0 1 a ?_;refine tV 4 (fun _ r=>q4 r) a ?_;refine rA 2 fun K o=>?_;go_simp;refine(QT (u.below bR.drew) i).mono ?_;rintro e y ⟨rfl,b⟩;go_wp2_with fail;refine o.out _ _ (bk b a) fun a=>?_;have x:=((u.below bR.drew).below b).P8 i k z;refine tD 3 10 (.map (mp A i)) (fun V r=>?_) a ?_
 .clear r a;have C:=P7;unfold UW;go_simp
 refine rA 5 fun K o=>?_;go_simp;refine o.out _ _ a fun a=>?_;have q:=(b.block _ (aG (w:=B.drew) f)).trans f;obtain⟨w,t,s,v,H,E,I,F⟩:=q8 q;refine rA 6 fun K o=>?_;go_simp;refine o.out _ _ (aD (aD (aD (aD a oM) oM) oM) oM) fun a=>?_;refine dn ?_;clear w t s v;have n:=c.drew.trans (b.mono c.size);go_wp2;have g:=dV (vU (aI ((gt A i).sl k) 0)) (vU (aI ((gt A i).sl k) 1)) (vU (aI ((gt A i).sl k) 2)) (vU (aI ((gt A i).sl k) 3)) q;have p:Bw W ((((y.setCell ⟨W.heap.size+1,0,none⟩ (vU (aI ((gt A i).sl k) 0))).setCell ⟨W.heap.size+1,1,none⟩ (vU (aI ((gt A i).sl k) 1))).setCell ⟨W.heap.size+1,2,none⟩ (vU (aI ((gt A i).sl k) 2))).setCell ⟨W.heap.size+1,3,none⟩ (vU (aI ((gt A i).sl k) 3))):=(((n.setCell (by dsimp only;exact oM) _).setCell (by dsimp only;exact oM) _).setCell (by dsimp only;exact oM) _).setCell (by dsimp only;exact oM) _;generalize((((y.setCell ⟨W.heap.size+1,0,none⟩ (.int .u64 (aI ((gt A i).sl k) 0))).setCell ⟨W.heap.size+1,1,none⟩ (.int .u64 (aI ((gt A i).sl k) 1))).setCell ⟨W.heap.size+1,2,none⟩ (.int .u64 (aI ((gt A i).sl k) 2))).setCell ⟨W.heap.size+1,3,none⟩ (.int .u64 (aI ((gt A i).sl k) 3)))=G at g p⊢;obtain⟨w,t,s,v⟩:=q4 g;simp[bodyPost,results,Tryz.results329,go_sem,w,t,s,v];exact p
def LF.put{D:K7}(h:LF W l m d cr A D J)(P:A i=some (b,v))(k x:Nat)(f:k<M)(H:x<M):
    Cq 340 #[pq b 0,wd k,wd x] W fun e w'=>e=rU/\LF w' l m d cr (up A i (some (b,{v with sl:=yX v.sl k x}))) D J/\Px LT W w':=by
 obtain⟨L,dl,h,rfl,I,z⟩:=h;obtain⟨q,a,rfl,rfl,rfl⟩:=fR P;have key:∀{w':WR} {sl:List (Nat×Nat)},cR wd w' q.2.2.ms (slotL sl)->aU [q.2.2.ms] [] W w'->(∀p∈sl,p.1<M/\p.2<M)->(sl.map (·.1)).Nodup->(∀p∈sl,p.2≠0)->iV sl=yX (iV q.2.2.sl) k x->LF w' l m d cr (up (am L) q.1 (some (q.2.1,{av q.2.2 with sl:=yX (av q.2.2).sl k x}))) D J/\Px LT W w':=fun{w' sl} n c w u B O=>by
  have⟨R,Q,r,_⟩:=h.slot q a;have E:LJ w' l m cr d J:=by have⟨C,o,s⟩:=h.lj.ex;refine⟨h.lj.lo,C,c.obj o (by show(128:Nat)∉[];simp) (fun e=>dS o r (fun e=>by cases e) (by simpa using e)),dM s fun g K=>?_⟩;have⟨N,F⟩:=cL s g K;exact(c.obj F (by show(262:Nat)∉[];simp) (fun e=>dS F r (fun e=>by cases e) (by simpa using e))).tr F.symm
  have G:=h.Ly a E n (c.mono (fun k _ f=>by simp at f;simp[f]) (fun t y=>y)) sI w u;refine⟨⟨_,dl,G,?_,I,sN z _ B⟩,h.px G c rfl (fun t y=>by cases y) (fun k f=>.inr (.inr (.inr ⟨q,a,_,lV a _,.inr ⟨by simpa using f,by simpa using f⟩⟩)))⟩;rw[yU h.nd h.AJ a];show up (am L) q.1 (some (q.2.1,⟨_,_,_,_,_,iV sl⟩))=_;rw[O];rfl
 by_cases j:x=0
 · apply(qk (h.acc q a) (h.slot q a) (h.key q a) k f x j).mono
   rintro e w' ⟨rfl,n,c⟩;exact⟨rfl,key n c (fun p c=>h.key q a p ((sM _).subset c)) ((h.IX q a).sublist ((sM _).map _)) (fun p c=>z q a p ((sM _).subset c)) (by rw[j];exact JH k (h.IX q a))⟩
 · apply(qj (h.acc q a) (h.slot q a) (h.key q a) k f x H j).mono
   rintro e w' ⟨rfl,n,c⟩;exact⟨rfl,key n c (fun p c=>(sJ c).elim (fun e=>by subst e;exact⟨f,H⟩) (h.key q a p)) (QQ (h.IX q a)) (fun p c=>(sJ c).elim (fun e=>by subst e;exact j) (z q a p)) (JG k x _)⟩
def LF.P9{D:K7}(h:LF W l m d cr A D J)(n:A i=some (b,v)):(∃e c,W.heap[v.ms]?=some (.map e c))/\(∀k,v.sl k<M)/\∀(k:Nat) (V:WR),k<M->V.heap[v.ms]?=W.heap[v.ms]?->(Instr.lookup 133 (.map (some v.ms)) (wd k) false).run zQ.prog V=.ok (wd (v.sl k)) V:=by
 obtain⟨L,dl,h,rfl,_⟩:=h;obtain⟨q,a,rfl,rfl,rfl⟩:=fR n;refine⟨?_,fun k=>QP (h.key q a) k,fun k V f j=>?_⟩
 .have⟨e,c,g,_⟩:=h.slot q a;exact⟨e,c,g⟩
 .have:=mQ gT ak (k:=k) (z:=wd 0) ((h.slot q a).same j).FL f (sG (h.key q a)) (fun w=>(aK 41 w).tr ((zeroValue41 w).tr (by simp[wd,aI])));rw[uI] at this;exact this
def ay{D:K7}(h:LF W l m d cr A D J)(i:Fh)(b:vZ)(s:J.length<100000000):
  Cq 131 #[pq l 0,.iface i b] W fun e w'=>e=rU/\LF w' l m d cr A D (J++[.iface i b])/\Px LT W w'/\aU [l] [262] W w':=by
 obtain⟨L,dl,h,rfl,n,q⟩:=h;apply(note l m cr d J i b W h.lj s).mono;rintro e w' ⟨rfl,g,f⟩;have⟨u,r,_⟩:=h.lj.ex;have j:=h.jA g f dC (fun k c o a=>by
  obtain rfl:k=l:=by simpa using c
  rw[r] at a;cases a;exact⟨_,_,_,rfl,dC⟩)
 exact⟨rfl,⟨L,dl,j,rfl,n,q⟩,h.px j f rfl (fun t p=>by simpa using p) (fun k c=>.inl (by simpa using c)),f⟩
def L2{D:K7}(h:LF W l m d cr A D J)(i:Int)(k x:Nat)(I:k<M)(T:x<M)(hJ:J.length+1<100000000):
   Cq 330 #[pq l 0,vI i,wd k,wd x] W fun e w'=>e=.returned (.tuple #[])/\(∃b v J',Tc A i b v J J'/\LF w' l m d cr (up A i (some (b,{v with sl:=yX v.sl k x}))) D (J'++[QR b k (v.sl k)])/\v.sl k<M)/\Px LT W w':=by
 have w:Bw W ((W.alloc (.cells (wq k) 41)).alloc (.cells (wq x) 41)):=(ba).trans ((ba).mono sI);have Q:=h.below w;have q:((W.alloc (.cells (wq k) 41)).alloc (.cells (wq x) 41)).heap[W.heap.size]?=ob (wq k) 41:=aT (aM W _);have u:((W.alloc (.cells (wq k) 41)).alloc (.cells (wq x) 41)).heap[W.heap.size+1]?=ob (wq x) 41:=by have:=aM (W.alloc (.cells (wq k) 41)) (.cells (wq x) 41);simpa using this
 have p:=yW Q i oM;go_enter (qz func330),Tryz.ntmps330;go_wp2_with fail;refine p.mono ?_;rintro e w1 ⟨b,v,J',rfl,z,y,f⟩;clear p;have B:w1.heap[W.heap.size]?=_:=f.row q;have E:w1.heap[W.heap.size+1]?=_:=f.row u;have⟨n,O,_⟩:=z.acc (dN _ _ _);obtain⟨⟨S,P,j⟩,G,s⟩:=z.P9 (dN _ _ _);obtain⟨X,N,_⟩:=z.lj.ex;have o:b≠l/\v.ms≠l:=⟨dP n N dC,dS j N (fun e=>by cases e)⟩;clear q u;go_wp2_with fail;refine rq (fun V=>V.heap[b]?=ob (Ld v) 136/\V.heap[W.heap.size]?=ob (wq k) 41/\V.heap[v.ms]?=w1.heap[v.ms]?) ⟨n,B,rfl⟩ fun a=>?_;refine t2 0 1 a ?_;refine tV 2 (fun _ c=>q4 (c.2.1)) a ?_;refine t3 3 4 5 a ?_;refine tV 6 (fun _ c=>bq (c.1) 7) a ?_;refine tV 7 (fun _ c=>q4 (c.2.1)) a ?_;refine tD 8 20 (.agg (wq (v.sl k))) (fun V c=>?_) a ?_
 .have L:=s k V I c.2.2;clear c a;go_simp
 refine t2 9 10 a ?_;refine rA 11 fun K R=>?_;go_simp;refine(ay (z.below bR.drew) 399 _ (by have:=y.len;exact oM)).mono ?_;rintro e U ⟨rfl,h3,g,r⟩;go_wp2_with fail;refine R.out _ _ ⟨r.obj a.1 (by show(136:Nat)∉[262];decide) (by simpa using o.1),g.row a.2.1,(r.obj (o:=.map S P) (by rw[a.2.2];exact j) trivial (by simpa using o.2)).trans j.symm⟩ fun a=>?_;refine dn ?_;have H:U.heap[W.heap.size+1]?=_:=g.row (w:=w1.drew) E;have C:=a.2.1;obtain⟨Y,Z,c2,c3⟩:=q4 C;obtain⟨d0,d1,d2,d3⟩:=q4 H;have t:=h3.put (dN _ _ _) k x I T;clear s;go_wp2_with fail;refine t.mono ?_;rintro e W3 ⟨rfl,h4,F⟩;clear t;go_wp2;simp[bodyPost,results,Tryz.results330,go_sem];rw[oH] at h4;exact⟨⟨b,v,J',y,h4,G k⟩,(Px.aF w _).trans (f.trans ((Px.aF bR.drew _).trans (g.trans F)))⟩
end
section
variable [aB]
def OE(x:Nat):Nat:=if 96<=x/\x<=127 then x - 94 else 1
def FV{x:Nat}:1<=OE x/\OE x<=33:=by unfold OE;split<;>omega
def QW(x:Nat)(f:x<256)(w:WR):Cq 147 #[vB (x:Int)] w fun e w'=>e=.rt (vI (OE x:Int))/\w'=w:=by
 by_cases c:96<=x
 .by_cases b:x<=127
  .have e:OE x=x - 94:=by unfold OE;rw[if_pos ⟨c,b⟩]
   have w1:IntKind.u8.wrap ((x:Int) - 96)=(x:Int) - 96:=by rw[IntKind.wrap_u8];omega
   have w2:iw ((x:Int) - 96)=(x:Int) - 96:=iW;have w3:iw ((x:Int) - 96+2)=(x:Int) - 96+2:=iW;have a:(96:Int)<=x:=oM
   have d:(x:Int)<=127:=oM
   go_enter (qz func147),ntmps147;go_wp2;go_ret;refine⟨?_,rfl⟩;rw[e];show Ending.returned (vI ((x:Int) - 96+2))=_;rw[show(x:Int) - 96+2=((x - 94:Nat):Int) by omega]
  .have e:OE x=1:=by unfold OE;rw[if_neg oM]
   have a:(96:Int)<=x:=oM
   have d:¬(x:Int)<=127:=oM
   go_enter (qz func147),ntmps147;go_wp2;go_ret;exact⟨rfl,rfl⟩
 .have e:OE x=1:=by unfold OE;rw[if_neg oM]
  have a:¬(96:Int)<=x:=oM
  go_enter (qz func147),ntmps147;go_wp2;go_ret;exact⟨rfl,rfl⟩
def FW(W:WR)(mk:SV):Prop:=mk.n=0\/∃g o c,mk.a=some ⟨g,o,none⟩/\W.heap[g]?=ob c 4/\∀i,i<mk.n->∃b,c[o+i]?=some (.bool b)
def FW.px(h:FW W mk)(a:Px T W W')(d:4∉T):FW W' mk:=by
 rcases h with h| ⟨g,o,c,e,b,h3⟩
 .exact .inl h
 .exact .inr ⟨g,o,c,e,a.row b d,h3⟩
def qp(n:Nat)(k:n<2147483648)(w:WR):(Instr.makeSlice 132 (.int .i64 (n:Int)) (.int .i64 (n:Int))).run zQ.prog w=.ok (.slice (some ⟨w.heap.size,0,none⟩) n n) (w.alloc (.cells (Array.replicate n (.bool false)) 4)):=by
 obtain⟨i,d⟩:∃i,zQ.prog.info? 4=some i:=by
  cases h:zQ.prog.info? 4 with
  |none=>have:=congrArg Option.isSome h;rw[show(zQ.prog.info? 4).isSome=true by kernel_rfl] at this;cases this
  |some i=>exact⟨i,rfl⟩
 have e8:(zQ.prog.info? 4).map (·.size)=some 1:=kR
 have a:(zQ.prog.info? 4).map (·.bytes)=some 1:=kR
 have c:(zQ.prog.info? 4).bind (·.zero)=some (.bool false):=kR
 rw[d] at e8 a c;have e:i.size=1:=aAv e8;have b:i.bytes=1:=aAv a;have h:=run_make (P:=zQ.prog) w 132 4 i (.bool false) ((aC 132).tr underlying132) d c .i64 .i64 (n:Int) (n:Int) oM (aBq _) (by rw[b];omega) oM;rw[e] at h;simp only[aBM,aCo] at h;rw[h,show madeCells (Value.bool false).cells n=Array.replicate n (.bool false) from ?_];unfold madeCells;apply Array.ext
 .simp
 .intro j g f;rw[Array.getElem_map,Array.getElem_range,Array.getElem_replicate];show#[Value.bool false][j % 1]! =_;rw[Nat.mod_one];rfl
def az(s:Lp)(A:s.size<2147483648)(w:WR):Cq 99 #[.string s] w fun e w'=>∃mk:SV,e=.returned (.slice mk.a mk.n mk.c)/\mk.n=s.size/\FW w' mk/\Bw w w':=by
 have z:=qp s.size A w;have g:Bw w (w.alloc (.cells (Array.replicate s.size (.bool false)) 4)):=ba;have h:=aM w (.cells (Array.replicate s.size (.bool false)) 4);have r:(s.data.size:Int)=(s.size:Int):=rfl;go_enter (qz func99),Tryz.ntmps99;go_wp2;go_loopw [4] (fun i W=>∃(k:Nat) (c:Ff),i=vI (k:Int)/\k<s.size+40/\W.heap[w.heap.size]?=ob c 4/\c.size=s.size/\(∀j,j<s.size->∃b,c[j]?=some (.bool b))/\Bw w W) (fun i _=>s.size+40 - (Go.RowKit.intOf i).toNat)
 case atStart=>
  exact⟨0,_,rfl,oM,h,sI,fun j o=>⟨false,by simp[o]⟩,g⟩
 case round=>
  obtain⟨k,c,rfl,D,f,n,d,u⟩:=hrel;by_cases a:k<s.size
  .have q:(k:Int)<(s.size:Int):=oM
   have t:s.data[k]?=some (s.data[k]'a):=aAN a;generalize s.data[k]'a=x at t;have p:=fun W=>ai s k x t W;have l:=QW x.toNat x.toNat_lt;obtain⟨E,m⟩:=d k a;have y:=aJ f k;rw[m] at y;have C:=aQ f k;go_wp2_with fail;refine(l _).mono ?_;rintro e w2 ⟨rfl,rfl⟩;have F:IntKind.i64.wrap ((k:Int)+(OE x.toNat:Int))=((k+OE x.toNat:Nat):Int):=by have:=FV (x:=x.toNat);rw[iW];exact oM
   go_wp2;refine⟨⟨k+OE x.toNat,_,rfl,by have:=FV (x:=x.toNat);exact oM,aO f,by simpa using n,fun j o=>?_,u.setCell lR _⟩,?_⟩
   .by_cases e:k=j
    .subst e;rw[aBm oM];exact⟨_,rfl⟩
    .rw[aAH e];exact d j o
   .have:=FV (x:=x.toNat);simp[Go.RowKit.intOf];exact oM
  .have v:¬(k:Int)<(s.size:Int):=oM
   go_wp2;simp[bodyPost,results,Tryz.results99,go_sem];exact⟨⟨some ⟨w.heap.size,0,none⟩,s.size,s.size⟩,⟨rfl,rfl,rfl⟩,rfl,.inr ⟨_,0,c,rfl,f,fun i B=>by rw[aAM];exact d i B⟩,u⟩
end
section
variable [aB]
attribute [local go_sem] wd
def bp{D:K7}(h:LF W l m d cr A D J)(i:Int)(c:Lp)(S:c.size<2147483648)(Y:J.length+1<100000000):
   Cq 179 #[pq l 0,vI i,.string c] W fun e w'=>e=rU/\(∃b v J' mk,Tc A i b v J J'/\LF w' l m d cr (up A i (some (b,{v with code:=c,mark:=mk}))) D (J'++[ao b v.code v.mark])/\FW w' mk/\mk.n=c.size)/\Px LT W w':=by
 have n:=yW h i oM;go_enter (qz func179),ntmps179;go_wp2_with fail;apply n.mono;rintro e w1 ⟨b,v,J',rfl,C,w,y⟩;clear n;have⟨g,u,_⟩:=C.acc (dN _ _ _);have⟨T,Q,_⟩:=C.lj.ex;have B:b≠l:=dP g Q dC;go_wp2_with fail;refine rq (fun V=>V.heap[b]?=ob (Ld v) 136) g fun f=>?_;refine t5 0 1 2 3 4 f ?_;refine tV 5 (fun _ F=>bq F 5) f ?_;refine t3 6 7 8 f ?_;refine tV 9 (fun _ F=>bq F 6) f ?_;refine t2 10 11 f ?_;refine rA 12 fun K O=>?_;go_simp;refine(ay (C.below bR.drew) 305 _ (by have:=w.len;omega)).mono ?_;rintro e R ⟨rfl,h3,z,I⟩;go_wp2_with fail;refine O.out _ _ (I.obj f (by show(136:Nat)∉[262];decide) (by simpa using B)) fun f=>?_;refine dn ?_;have q:=az c S R;go_wp2_with fail;apply q.mono;rintro e P ⟨mk,rfl,p,L,s⟩;have E:=US p;clear q p;have h4:=h3.below s;have⟨a,_,_⟩:=h4.acc (dN _ _ _);have X:=bq a 5;have c6:=bq a 6;have U:=aQ a 5;have Z:=aQ a 6;go_wp2;simp[bodyPost,results,results179,go_sem];have j:=(aU.sC P b 5 (.string c)).tr (aU.sC _ b 6 (.sl mk.a mk.n mk.c));have H:=aO (i:=6) (v:=.sl mk.a mk.n mk.c) (aO (i:=5) (v:=.string c) a);have r:=h4.lj.jA j dC (fun k G o M=>by
  obtain rfl:k=b:=by simpa using G
  rw[a] at M;cases M;exact⟨_,_,_,rfl,dC,dC⟩)
 have x:=h4.set (v':={v with code:=c,mark:=mk}) (dN _ _ _) r H j (fun k G=>.inr (by simpa using G)) (fun t N=>by cases N) ⟨rfl,rfl⟩ u;rw[oH] at x;exact⟨⟨b,v,J',w,mk,x.1,L.px x.2 dC,E.out⟩,y.tr ((Px.aF bR.drew _).tr (z.tr ((Px.aF s _).tr x.2)))⟩
def LG.sub{f:AL}{dl:List Int}(h:LG W l m dm cr L J)(b:f.Sublist L)(n:LJ W' l m cr dm.b J')(v:cR (fun x:Int=>Value.int .i64 x) W' m (ids f))(s:cR (fun x:Int=>Value.int .i64 x) W' dm.b (IW dl))(lY:dl.Nodup){B:K4}(o:aU B T W W')(r:∀k∈B,k=l\/k=m\/k=dm.b)(u:136∉T):LG W' l m ⟨dm.b,dl⟩ cr f J':=by
 have⟨A,p,_⟩:=h.lj.ex;have⟨D,y,j,_⟩:=h.map;have⟨C,z,d,_⟩:=h.iZ;refine⟨n,v,s,fun q a=>o.obj (h.acc q (b.subset a)) u (fun e=>?_),fun q a=>?_,h.nd.sublist (b.map _),h.AJ.sublist (b.map _),fun q a=>h.bal q (b.subset a),fun q a=>h.key q (b.subset a),fun q a=>h.IX q (b.subset a),h.UN.sublist (b.map _),fun q a=>h.MA q (b.subset a),h.UO,lY,fun q a=>h.lo q (b.subset a),h.wT⟩
 .have i:=h.acc q (b.subset a);rcases r _ e with e|e|e
  .exact dP i p dC e
  .exact dS i j (fun e=>by cases e) e
  .exact dS i d (fun e=>by cases e) e
 .have⟨t,w,c,g⟩:=h.slot q (b.subset a);refine cR.same ⟨t,w,c,g⟩ ((o.obj c trivial (fun e=>?_)).tr c.symm);rcases r _ e with e|e|e
  .exact dS c p (fun e=>by cases e) e
  .exact(h.MA q (b.subset a)).1 e
  .exact(h.MA q (b.subset a)).2 e
def qq(k:Int):AL->AL
 | []=>[]
 |q::L=>if k=q.1 then L else q::qq k L
theorem FX(k:Int):∀L:AL,(qq k L).Sublist L
 | []=>.slnil
 |q::L=>by
  unfold qq;split
  .exact List.sublist_cons_self _ _
  .exact(FX k L).cons_cons _
theorem QX(k:Int):∀L:AL,qO k (ids L)=ids (qq k L)
 | []=>rfl
 |q::L=>by
  show qO k ((q.1,Value.pointer (some (ad q.2.1 0)))::ids L)=_;unfold qO qq;split
  .rfl
  .rw[QX k L];rfl
theorem xm(k:Int):∀{L:AL},(L.map (·.1)).Nodup->am (qq k L)=up (am L) k none
 | [],_=>by funext j;simp[qq,am,up]
 |q::L,h=>by
  have c:=aBt.1 h;funext j;have b:=congrFun (xm k c.2) j;unfold up at b⊢;by_cases a:k=q.1
  .simp only[qq,if_pos a,am];by_cases e:j=k
   .rw[if_pos e,e,a];exact pD.2 c.1
   .rw[if_neg e,if_neg (fun x=>e (x.tr a.symm))]
  .simp only[qq,if_neg a,am,b];by_cases e:j=q.1
   .rw[if_pos e,if_neg (fun x=>a (x.symm.tr e)),if_pos e]
   .simp[e]
theorem QY(k:Int):∀l:List Int,qO k (IW l)=IW (l.erase k)
 | []=>rfl
 |x::l=>by
  show qO k ((x,Value.agg #[])::IW l)=_;unfold qO;by_cases h:k=x
  .rw[if_pos h,h,List.erase_cons_head]
  .rw[if_neg h,QY k l,List.erase_cons_tail (by simpa using fun e=>h e.symm)];rfl
def LF.maps{D:K7}(h:LF W l m d cr A D J):m<W.heap.size/\d<W.heap.size/\W.cell? ⟨l,0,none⟩=some (.map (some m))/\W.cell? ⟨l,3,none⟩=some (.map (some d)):=by have⟨L,dl,h,_⟩:=h;have⟨b,a,_⟩:=h.lj.ex;exact⟨h.map.lt,h.iZ.lt,by rw[aJ a 0];rfl,by rw[aJ a 3];rfl⟩
def LF.del{D:K7}(h:LF W l m d cr A D J)(k:Int):∃o,(Builtin.delete_ #[124,3] ty #[.map (some m),.int .i64 k]).run zQ.prog W=.ok (.tuple #[]) {W with heap:=W.heap.setIfInBounds m o}/\LF {W with heap:=W.heap.setIfInBounds m o} l m d cr (up A k none) D J/\Px LT W {W with heap:=W.heap.setIfInBounds m o}:=by
 obtain⟨L,dl,h,rfl,v,E⟩:=h;have⟨o,G,r⟩:=oG (ty:=ty) pg UP (k:=k) h.map trivial fun _ _=>trivial;rw[QX] at r;have c:=aU.qP W m o;have⟨I,H,f,_⟩:=h.map;have⟨B,u,a⟩:=h.lj.ex;have⟨C,w,b,j⟩:=h.iZ;have n:LJ {W with heap:=W.heap.setIfInBounds m o} l m cr d J:=⟨h.lj.lo,B,c.obj u (by show(128:Nat)∉[];simp) (by simpa using dS u f (fun e=>by cases e)),dM a fun g y=>by have⟨F,p⟩:=cL a g y;exact(c.obj p (by show(262:Nat)∉[];simp) (by simpa using dS p f (fun e=>by cases e))).tr p.symm⟩
 have s:=h.sub (FX k L) n r (cR.same ⟨C,w,b,j⟩ ((c.obj b trivial (by simpa using Ne.symm h.UO)).tr b.symm)) h.pf c (fun k i=>.inr (.inl (by simpa using i))) sI;exact⟨o,G,⟨_,dl,s,xm k h.nd,v,fun q z=>E q ((FX k L).subset z)⟩,h.px s c rfl (fun t x=>by cases x) (fun k i=>.inr (.inl (by simpa using i)))⟩
def LG.L3(h:LG W l m dm cr L J)(o:Obj):LJ {W with heap:=W.heap.setIfInBounds dm.b o} l m cr dm.b J:=by have d:=aU.qP W dm.b o;have⟨k,f,a⟩:=h.lj.ex;have⟨p,n,b,_⟩:=h.iZ;exact⟨h.lj.lo,k,d.obj f (by show(128:Nat)∉[];simp) (by simpa using dS f b (fun e=>by cases e)),dM a fun g j=>by have⟨i,c⟩:=cL a g j;exact(d.obj c (by show(262:Nat)∉[];simp) (by simpa using dS c b (fun e=>by cases e))).tr c.symm⟩
def LF.br{D:K7}(h:LF W l m d cr A D J):∃dl,cR (fun x:Int=>Value.int .i64 x) W d (IW dl)/\(∀i,i∈dl ↔ D i)/\dl.Nodup/\∀(o:Obj) (a:List Int) (f:K7),cR (fun x:Int=>Value.int .i64 x) {W with heap:=W.heap.setIfInBounds d o} d (IW a)->a.Nodup->(∀i,i∈a ↔ f i)->LF {W with heap:=W.heap.setIfInBounds d o} l m d cr A f J/\Px LT W {W with heap:=W.heap.setIfInBounds d o}:=by obtain⟨L,dl,h,rfl,n,u⟩:=h;refine⟨dl,h.iZ,n,h.pf,fun o a f p w s=>?_⟩;have e:=aU.qP W d o;have⟨v,q,b,g⟩:=h.map;have j:=h.sub (List.Sublist.refl L) (h.L3 o) (cR.same ⟨v,q,b,g⟩ ((e.obj b trivial (by simpa using h.UO)).tr b.symm)) p w e (fun k c=>.inr (.inr (by simpa using c))) sI;exact⟨⟨L,a,j,rfl,s,u⟩,h.px j e rfl (fun t r=>by cases r) (fun k c=>.inr (.inr (.inl (by simpa using c))))⟩
def Ar{D:K7}(h:LF W l m d cr A D J)(k:Int):
   Cq 368 #[.agg #[vI k],pq l 0] W fun e w'=>e=rU/\LF w' l m d cr (up A k none) D J/\Px LT W w':=by
 have a:Bw W (W.alloc (.ce #[vI k] 210)):=ba;have i:=h.below a;have o:=aM W (.ce #[vI k] 210);have f:=i.maps.2.2.1;have p:=h.lt.1;go_enter (qz func368),ntmps368;go_wp2_with fail;change Code.wp _ _ _ _ (W.alloc (.ce #[vI k] 210));generalize(W.alloc (.cells #[.int .i64 k] 210))=r at a i o f⊢;refine rq (fun V=>V.cA l 0=some (.map (some m))/\V.heap[W.heap.size]?=ob #[vI k] 210) ⟨f,o⟩ fun b=>?_;refine t3 0 1 2 b ?_;refine tV 3 (fun _ g=>g.1) b ?_;refine t1 4 b ?_;refine tV 5 (fun _ g=>bq (g.2) 0) b ?_;refine rA 6 fun K q=>?_;have⟨s,n,j,c⟩:=(i.below bR.drew).del (ty:=0) k;go_simp;refine q.out _ _ ⟨j.maps.2.2.1,c.row b.2⟩ fun b=>?_;refine dn ?_;show bodyPost zQ.prog f368 _ Exit.normal _ _;simp[bodyPost,results,results368,go_sem];exact⟨j,(Px.aF a.drew _).tr c⟩
def bu{D:K7}(h:LF W l m d cr A D J)(k:Int):
   Cq 392 #[.agg #[vI k],pq l 0] W fun e w'=>e=rU/\LF w' l m d cr A (fun j=>D j/\j≠k) J/\Px LT W w':=by
 have a:Bw W (W.alloc (.ce #[vI k] 404)):=ba;have o:=h.below a;have s:=aM W (.ce #[vI k] 404);have f:=o.maps.2.2.2;have t:=h.lt.1;go_enter (qz func392),ntmps392;go_wp2_with fail;change Code.wp _ _ _ _ (W.alloc (.ce #[vI k] 404));generalize(W.alloc (.cells #[.int .i64 k] 404))=x at a o s f⊢;refine rq (fun V=>V.cA l 3=some (.map (some d))/\V.heap[W.heap.size]?=ob #[vI k] 404) ⟨f,s⟩ fun b=>?_;refine t3 0 1 2 b ?_;refine tV 3 (fun _ n=>n.1) b ?_;refine t1 4 b ?_;refine tV 5 (fun _ n=>bq (n.2) 0) b ?_;refine rA 6 fun K v=>?_;have⟨dl,i,u,lY,g⟩:=(o.below bR.drew).br;have⟨w,r,q⟩:=oG (ty:=0) pg OC (k:=k) i trivial fun _ _=>trivial;rw[QY] at q;have⟨p,c⟩:=g w _ (fun j=>D j/\j≠k) q (lY.sublist List.erase_sublist) (fun j=>by rw[lY.mem_erase_iff,u j];exact and_comm);go_simp;refine v.out _ _ ⟨p.maps.2.2.2,c.row b.2⟩ fun b=>?_;refine dn ?_;show bodyPost zQ.prog f392 _ Exit.normal _ _;simp[bodyPost,results,results392,go_sem];exact⟨p,(Px.aF a.drew _).tr c⟩
def cf{D:K7}(h:LF W l m d cr A D J)(p:A i=some (b,v))(x:Nat)(r:x<M):
  Cq 369 #[.agg #[pq b 0,vL x 0,vL x 1,vL x 2,vL x 3],pq l 0] W fun e w'=>e=rU/\LF w' l m d cr (up A i (some (b,{v with bal:=x}))) D J/\Px LT W w':=by
 obtain⟨L,dl,h,rfl,j,g⟩:=h;obtain⟨q,a,rfl,rfl,rfl⟩:=fR p;apply(OF h a x r).mono;rintro e w' ⟨rfl,f,o⟩;exact⟨rfl,⟨_,dl,f,yU h.nd h.AJ a _,j,sN g _ (g q a)⟩,h.px f o rfl (fun t n=>by cases n) (fun k c=>.inr (.inr (.inr ⟨q,a,_,lV a _,.inl ⟨by simpa using c,by simpa using c⟩⟩)))⟩
def OG{D:K7}(h:LF W l m d cr A D J)(p:A i=some (b,v))(x:Int):
  Cq 373 #[.agg #[pq b 0,vI x],pq l 0] W fun e w'=>e=rU/\LF w' l m d cr (up A i (some (b,{v with nonce:=x}))) D J/\Px LT W w':=by
 obtain⟨L,dl,h,rfl,j,g⟩:=h;obtain⟨q,a,rfl,rfl,rfl⟩:=fR p;apply(FY h a x).mono;rintro e w' ⟨rfl,f,o⟩;exact⟨rfl,⟨_,dl,f,yU h.nd h.AJ a _,j,sN g _ (g q a)⟩,h.px f o rfl (fun t n=>by cases n) (fun k c=>.inr (.inr (.inr ⟨q,a,_,lV a _,.inl ⟨by simpa using c,by simpa using c⟩⟩)))⟩
def UZ{D:K7}(h:LF W l m d cr A D J)(j:A i=some (b,v))(k x:Nat)(g:k<M)(n:x<M):
  Cq 391 #[.agg #[pq b 0,vL k 0,vL k 1,vL k 2,vL k 3,vL x 0,vL x 1,vL x 2,vL x 3],pq l 0] W fun e w'=>e=rU/\LF w' l m d cr (up A i (some (b,{v with sl:=yX v.sl k x}))) D J/\Px LT W w':=by
 have c:Bw W (W.nc #[pq b 0,vL k 0,vL k 1,vL k 2,vL k 3,vL x 0,vL x 1,vL x 2,vL x 3] 399):=ba;have a:=(h.below c).put j k x g n;go_enter (qz func391),ntmps391;go_wp2_with fail;apply a.mono;rintro e o ⟨rfl,h3,f⟩;clear a;go_wp2;simp[bodyPost,results,results391,go_sem];exact⟨h3,(Px.aF c _).tr f⟩
def VD{D:K7}(h:LF W l m d cr A D J)(z:A i=some (b,v))(c:Lp)(mk:SV):
   Cq 376 #[.agg #[pq b 0,.string c,.sl mk.a mk.n mk.c],pq l 0] W fun e w'=>e=rU/\LF w' l m d cr (up A i (some (b,{v with code:=c,mark:=mk}))) D J/\Px LT W w':=by
 have j:Bw W (W.alloc (.ce #[pq b 0,.string c,.sl mk.a mk.n mk.c] 305)):=ba;have w:=h.below j;have F:=aM W (.ce #[pq b 0,.string c,.sl mk.a mk.n mk.c] 305);have⟨f,r,_⟩:=w.acc z;have H:b<W.heap.size:=aG (h.acc z).1;go_enter (qz func376),ntmps376;go_wp2_with fail;change Code.wp _ _ _ _ (W.alloc (.ce #[pq b 0,.string c,.sl mk.a mk.n mk.c] 305));generalize(W.alloc (.cells #[pq b 0,.string c,.slice mk.a mk.n mk.c] 305))=u at j w F f⊢;refine rq (fun V=>V.heap[W.heap.size]?=ob #[pq b 0,.string c,.sl mk.a mk.n mk.c] 305) F fun a=>?_;refine t1 0 a ?_;refine tV 1 (fun _ g=>bq g 0) a ?_;refine t1 2 a ?_;refine tV 3 (fun _ g=>bq g 0) a ?_;refine t1 4 a ?_;refine tV 5 (fun _ g=>bq g 1) a ?_;refine t1 6 a ?_;refine tV 7 (fun _ g=>bq g 2) a ?_;refine t2 8 9 a ?_;have q:u.drew.heap[b]?=_:=f;have L:=bq f 5;have I:=aQ f 5;have N:=bq f 6;have M:=aQ f 6;refine rA 10 fun K x=>?_;go_simp;refine x.out _ _ (aD (k:=W.heap.size) (b:=b) a oM) fun a=>?_;refine t2 11 12 a ?_;refine rA 13 fun K x=>?_;go_simp;refine x.out _ _ (aD (k:=W.heap.size) (b:=b) a oM) fun a=>?_;refine dn ?_;show bodyPost zQ.prog f376 _ Exit.normal _ _;simp[bodyPost,results,results376,go_sem];have n:=(aU.setCell u.drew b 5 (.string c)).tr (aU.setCell _ b 6 (.sl mk.a mk.n mk.c));have y:=aO (i:=6) (v:=.sl mk.a mk.n mk.c) (aO (i:=5) (v:=.string c) q);have B:=w.below (Below.refl _ u).drew;have p:=B.lj.jA n dC (fun k s o E=>by
  obtain rfl:k=b:=by simpa using s
  rw[q] at E;cases E;exact⟨_,_,_,rfl,dC,dC⟩)
 have C:=B.set (v':={v with code:=c,mark:=mk}) z p y n (fun k s=>.inr (by simpa using s)) (fun t G=>by cases G) ⟨rfl,rfl⟩ r;exact⟨C.1,(Px.aF j.drew _).tr C.2⟩
def F5{D:K7}{j:vZ}{g:K7}(o:JV j A D A' g):∃t v fn,j=.iface t v/\(∀w,(Go.method 543 t v "purser/ledger.undo").run zQ.prog w=.ok (fn,v) w)/\(∀args w,(callFunc fn args).run zQ.prog w=.ok (.enter fn args) w)/\
  ∀W J,LF W l m d cr A D J->Cq fn #[v,pq l 0] W fun e w'=>e=rU/\LF w' l m d cr A' g J/\Px LT W w':=by
 cases o with
 |be k=>exact⟨_,_,368,rfl,fun w=>kR,Z0,fun W J h=>Ar h k⟩
 |bal i b v x _ _ a f=>exact⟨_,_,369,rfl,fun w=>kR,Z1,fun W J h=>cf h a x f⟩
 |nonce i b v x _ _ a=>exact⟨_,_,373,rfl,fun w=>kR,Z2,fun W J h=>OG h a x⟩
 |code i b v c mk _ _ a=>exact⟨_,_,376,rfl,fun w=>kR,Z3,fun W J h=>VD h a c mk⟩
 |slot i b v k x _ _ a n f=>exact⟨_,_,391,rfl,fun w=>kR,Z4,fun W J h=>UZ h a k x n f⟩
 |doom k=>exact⟨_,_,392,rfl,fun w=>kR,Z5,fun W J h=>bu h k⟩
def F7{D:K7}{rs c:K3}{B:AM}{D0:K7}(h:LF W l m d cr A D (c++rs.reverse))(P:(c++rs.reverse).length<100000000)(K:UX B D0 rs A D):
  Cq 223 #[pq l 0,vI (c.length:Int)] W fun e w'=>e=rU/\LF w' l m d cr B D0 c/\Px LT W w':=by
 refine Calls.mono (qu (dm:=d) (m:=m) (cr:=cr) c.length sI P (fun n w=>∃a r A' s,LF w l m d cr A' s (c++rs.reverse)/\UX B D0 a A' s/\n=c.length+a.length/\rs=r++a/\Px LT W w) (fun n w ⟨_,_,_,_,f,_⟩=>f.lj) (fun n w I G ⟨a,r,A',s,f,z,b,g,C⟩=>?_) ⟨rs,[],A,D,h,K,sI,rfl,Px.refl _ _⟩) ?_
 .cases a with
  |nil=>simp at b;omega
  |cons j a=>
   have⟨R,M,F,E⟩:=z;have⟨t,v,fn,F,Q,S,u⟩:=F5 (l:=l) (m:=m) (d:=d) (cr:=cr) F;refine⟨t,v,fn,?_,Q,S,(u w _ f).mono (fun e w' ⟨I,G,h3⟩=>⟨I,a,r++[j],R,M,G,E,?_,by rw[g];simp,C.tr h3⟩)⟩
   .rw[g,<-F,List.reverse_append,List.reverse_cons,aBn (by simp at b;omega)];simp at b;rw[show n - c.length=a.reverse.length by simp;omega];simp
   .simp at b;omega
 .rintro e w' ⟨rfl,w1,⟨a,r,A',s,f,z,b,g,C⟩,q,i⟩;have J:a=[]:=aAZ oM;subst J;obtain⟨rfl,rfl⟩:=z;have x:(c++rs.reverse).take c.length=c:=sI
  rw[x] at q;obtain⟨L,dl,f,rfl,u,N⟩:=f;have⟨T,O,_⟩:=f.lj.ex;have H:=f.jA q i sI (fun k y o p=>by
   obtain rfl:k=l:=by simpa using y
   rw[O] at p;cases p;exact⟨_,_,_,rfl,dC⟩)
  exact⟨rfl,⟨L,dl,H,rfl,u,N⟩,C.tr (f.px H i rfl (fun t x=>by cases x) (fun k y=>.inl (by simpa using y)))⟩
end
section
open Go.MapKept Go.ChangeMaps
variable [aB]
def LF.lo{D:K7}(h:LF W l m d cr A D J):aB.b0<=l/\aB.b0<=m/\aB.b0<=d:=by have⟨L,dl,h,_⟩:=h;exact⟨h.lj.lo,h.wT⟩
def LF.md{D:K7}(h:LF W l m d cr A D J):m≠d:=by have⟨L,dl,h,_⟩:=h;exact h.UO
def LF.L4{D:K7}(h:LF W l m d cr A D J):LF (W.setCell ⟨l,2,none⟩ (.slice none 0 0)) l m d cr A D []/\Px LT W (W.setCell ⟨l,2,none⟩ (.slice none 0 0)):=by
 obtain⟨L,dl,h,rfl,i,n⟩:=h;have⟨p,g,e⟩:=h.lj.ex;have c:=aU.sC W l 2 (.sl none 0 0);have f:=h.jA (J':=[]) ⟨h.lj.lo,⟨none,0,0⟩,aO g,rfl,.inl ⟨rfl,rfl⟩⟩ c sI (fun k b o a=>by
  obtain rfl:k=l:=by simpa using b
  rw[g] at a;cases a;exact⟨_,_,_,rfl,dC⟩)
 exact⟨⟨L,dl,f,rfl,i,n⟩,h.px f c rfl (fun t j=>by cases j) (fun k b=>.inl (by simpa using b))⟩
def LF.F8{D:K7}(h:LF W l m d cr A D J):(∃v,W.cell? ⟨l,2,none⟩=some v)/\W.frozen? ⟨l,2,none⟩=false:=by have⟨b,a,_⟩:=h.lj.ex;exact⟨⟨_,(aJ a 2).tr rfl⟩,aQ a 2⟩
def qv{r:Nat}{x:Option Nat}{s:Array Nat}{l:Option Nat}{j:Nat}{g:Array Nat}(h:w.grownBy w' (some r))(i:w.heap[r]?=some (.mapIter x c s e))(f:w'.heap[r]?=some (.mapIter l c' g j))(d:aB.b0<=r):Px [1001] w w':=by
 have a:=yP h;refine⟨a.os,a.tape,a.output,a.size,fun k b=>?_⟩;by_cases e:k=r
 .subst e;rw[i,f];exact .inr ⟨by show 1001∈[1001];decide,by show lw 1001<=k;simp[lw,aB.lo];exact d,rfl⟩
 .exact .inl (a.block k b (fun m=>e (aAv m).symm))
def qw{D:K7}(h:LF W l m d cr A D J):
  Cq 56 #[pq l 0] W fun e w'=>e=rU/\(∃A',(∀i,A' i=none\/A' i=A i)/\(∀i,¬D i->A' i=A i)/\LF w' l m d cr A' (fun _=>False) [])/\Px LT W w':=by
 have⟨dl,Q,hD,lY,_⟩:=h.br;have⟨v,clock,H,hR,hS⟩:=Q;have z:∀e∈v.toList,∃k,D k/\e.key=vI k:=fun e T=>by have h1:(e.key,e.val)∈v.toList.map (fun e=>(e.key,e.val)):=aAI T;rw[hR] at h1;have⟨p,hp,h2⟩:=aAJ.1 h1;obtain⟨k,hk,rfl⟩:=aAJ.1 hp;exact⟨k,(hD k).1 hk,(Prod.mk.inj h2).1.symm⟩
 have u:Bw W (W.alloc (.mapIter (some d) clock #[] clock)):=ba;have G:=run_range_map (P:=zQ.prog) W 125 3 179 d v clock OC H;have O:=fQ.start H hS;have h0:=h.below u;have a6:=aG H;have a7:=h.lt.1;have a2:=h.lo;have a5:=h.maps.1;have M:m≠d:=h.md;have c3:=h.maps.2.2.2;go_enter (qz func56),ntmps56;go_wp2_with fail;go_loopw [] (fun wr=>∃(pre:List MapEntry) (A':AM),fQ wr d W.heap.size v clock pre/\LF wr l m d cr A' D J/\(∀i,A' i=none\/A' i=A i)/\(∀i,¬D i->A' i=A i)/\Px LT W wr) (fun wr=>wr.rangeLeft d W.heap.size)
 case atStart=>exact⟨[],A,O,h0,fun _=>.inr rfl,fun _ _=>rfl,Px.aF u _⟩
 case round=>
  have⟨pre,A',X,F,w,s,E⟩:=hrel;rcases X.next oM 0 with⟨I,f⟩| ⟨e,w',K,T,f,y,U,L,V⟩
  .have⟨a1,x,a8,a0,b⟩:=F.br;have⟨o,B,Z⟩:=yS (ty:=0) OC x;have⟨a,c⟩:=b o [] (fun _=>False) Z sI sI;have e3:=F.maps.2.2.2;have a4:=F.lt.1;have S:=a.lt.1;have⟨⟨v2,c2⟩,f2⟩:=a.F8;have⟨r,q⟩:=a.L4;clear b Z;generalize({wr with heap:=wr.heap.setIfInBounds d o}:WR)=w2 at B a c S c2 f2 r q;go_wp2;simp[bodyPost,results,results56,go_sem];exact⟨⟨A',w,s,r⟩,E.tr (c.tr q)⟩
  .have⟨k,P,R⟩:=z e K;rw[R] at f V;have C:=qv U X.it y.it oM;have g:=F.XV C dC;have d0:=g.maps.2.2.1;have a3:=g.lt.1;have⟨o,n,a,c⟩:=g.del (ty:=0) k;have N:=CR T;clear L;have j:fQ ({w' with heap:=w'.heap.setIfInBounds m o}:WR) d W.heap.size v clock (pre++[e]):=y.xe (aAH M) (aAH oM);generalize({w' with heap:=w'.heap.setIfInBounds m o}:WR)=w2 at n a c j;go_wp2;go_roundw
   case rel=>
    refine⟨pre++[e],_,j,a,fun i=>?_,fun i hi=>?_,E.tr ((C.mono (fun t Y=>by simp at Y;simp[Y])).tr c)⟩
    .unfold up;split
     .exact .inl rfl
     .exact w i
    .unfold up;rw[if_neg (fun e2:i=k=>hi (by rw[e2];exact P))];exact s i hi
   case measure=>rw[j.left,X.left];exact N
end
section
variable [aB]
def Eo(W:WR)(b a e:Addr):Prop:=e.block<aB.b0/\e≠b/\e≠a/\∃c t,W.heap[e.block]?=ob c t
structure Ge (W:WR)(dp li:Addr):Prop where
 lo:10<aB.b0/\dp.block<aB.b0/\li.block<aB.b0
 low:aB.b0<=W.heap.size
 de:W.cell? ⟨0,0,none⟩=some (.iface 407 (.pointer (some dp)))
 le:W.cell? ⟨3,0,none⟩=some (.iface 407 (.pointer (some li)))
 et:W.cell? ⟨4,0,none⟩=some (.iface 355 (.agg #[pq 11 36]))
 er:∀g∈[1,2,5,6,7,10],∃e,W.cell? ⟨g,0,none⟩=some (.iface 407 (.pointer (some e)))/\Eo W dp li e
 od:∃c t,W.heap[dp.block]?=ob c t
 ol:∃c t,W.heap[li.block]?=ob c t
 ne:li≠dp
def GC(h:W'.heap[k]?=W.heap[k]?)(i:Nat):W'.cell? ⟨k,i,none⟩=W.cell? ⟨k,i,none⟩:=by simp only[World.cell?,h]
def Ge.px{m i:Addr}(h:Ge W m i)(f:Px T W W'):Ge W' m i:=by
 have j:=h.lo;have a:∀k,k<aB.b0->W'.heap[k]?=W.heap[k]?:=fun k a=>f.low a (aAy a h.low);have b:∀{k:Nat},k<aB.b0->(∃c t,W.heap[k]?=ob c t)->∃c t,W'.heap[k]?=ob c t:=fun d ⟨c,t,e⟩=>⟨c,t,(a _ d).tr e⟩;refine⟨h.lo,aAw h.low f.size,(GC (a 0 oM) 0).tr h.de,(GC (a 3 oM) 0).tr h.le,(GC (a 4 oM) 0).tr h.et,fun g n=>?_,b j.2.1 h.od,b j.2.2 h.ol,h.ne⟩;have⟨e,d,l,h3,h4,o⟩:=h.er g n;have:g<=10:=by simp at n;omega
 exact⟨e,(GC (a g oM) 0).tr d,l,h3,h4,b l o⟩
def iE(F:fC)(sv mv:SV):Ff:=#[pq F.m 0,.int .i64 F.bl,.int .i64 F.bg,.int .i64 F.bb,.string F.text,.slice F.mark.a F.mark.n F.mark.c,.int .i64 F.self,.int .i64 F.caller,.int .u64 (aI F.val 0),.int .u64 (aI F.val 1),.int .u64 (aI F.val 2),.int .u64 (aI F.val 3),.slice F.data.a F.data.n F.data.c,.int .i64 F.bP,.slice sv.a sv.n sv.c,.slice mv.a mv.n mv.c,.int .i64 F.place,.int .i64 F.next]
def JI(W:WR)(mk:SV):Prop:=mk.n=0\/∃g o c a,mk.a=some ⟨g,o,none⟩/\g<aB.b1/\W.heap[g]?=some (.cells c 5 a)/\∀i,i<mk.n->∃b:Nat,b<256/\c[o+i]?=some (.int .u8 b)
structure dT (W:WR)(f:Nat)(F:fC)(sv mv:SV)(S:K4)(X:K3):Prop where
 fc:W.heap[f]?=ob (iE F sv mv) 225
 lo:aB.b1<=f
 st:FO W sv S
 sm:∀x∈S,x<M
 me:W.ownsRow aB.b1 5 1 (.slice mv.a mv.n mv.c) X.length X
 mb:∀x∈X,∃b:Nat,b<256/\x=.int .u8 b
 ma:FW W F.mark
 da:JI W F.data
def yY(h:FO W sv S)(a:Px T W W')(d:41∉T):FO W' sv S:=
 ⟨dM h.own fun g e=>by have⟨c,b⟩:=cL h.own g e;exact(a.row b d).tr b.symm,h.num,aAw h.low a.size⟩
def jX{s:Nat}{v:vZ}(h:W.ownsRow b e s v n xs)(d:Px T W W')(f:e∉T):W'.ownsRow b e s v n xs:=
 dM h fun g i=>by have⟨c,a⟩:=cL h g i;exact(d.row a f).tr a.symm
def JI.eT(h:JI W mk)(b:Px T W W'):JI W' mk:=by
 rcases h with h| ⟨g,o,c,a,f,d,h3,h4⟩
 .exact .inl h
 .refine .inr ⟨g,o,c,a,f,d,?_,h4⟩;rcases b.block g (aG h3) with e| ⟨_,e,_⟩
  .exact e.tr h3
  .rw[h3] at e;have:aB.b1<=g:=by simpa[kd,lw,aB.lo] using e
   omega
def dT.px(h:dT W f F sv mv S X)(a:Px T W W')(b:225∉T/\41∉T/\5∉T/\4∉T):dT W' f F sv mv S X:=
 ⟨a.row h.fc b.1,h.lo,yY h.st a b.2.1,h.sm,jX h.me a b.2.2.1,h.mb,h.ma.px a b.2.2.2,h.da.eT a⟩
end
section
structure Kc where
 mc:Nat
 l:Nat
 m:Nat
 d:Nat
 dp:Addr
 li:Addr
structure St where
 A:AM
 D:K7
 J:K3
 cr:Int
 N:Nat
 xs:K3
 back:Int
 depth:Int
 c:Nat
def VH(f:Nat->Nat)(c:Nat):Prop:=∃a:K4,a.length<=c/\∀k,f k≠0->k∈a
def Ir(i:Int):Prop:=0<=i/\i<=4294967295
def mC(A:AM)(c:Nat):Prop:=∃a:List Int,a.length<=c/\(∀k,A k≠none->k∈a)/\∀k∈a,Ir k
def VH.mono{f:Nat->Nat}(h:VH f c)(e:c<=c'):VH f c':=let⟨d,b,a⟩:=h;⟨d,aAw b e,a⟩
def mC.mono(h:mC A c)(e:c<=c'):mC A c':=let⟨d,b,a⟩:=h;⟨d,aAw b e,a⟩
variable [aB]
structure jI (W:WR)(v:Av)(c:Nat):Prop where
 nonce:0<=v.nonce/\v.nonce<=4611686018427387904+c
 sup:VH v.sl c
 row:FW W v.mark
 code:v.code.size<2147483648
 mark:v.mark.n<2147483648
structure Mi (W:WR)(K:Kc)(s:St):Prop where
 lf:LF W K.l K.m K.d s.cr s.A s.D s.J
 mc:∃lg:SV,W.heap[K.mc]?=ob (aZ K.l lg s.back s.depth) 165/\W.ownsRow aB.b0 95 6 (.slice lg.a lg.n lg.c) s.N s.xs
 wT:aB.b0<=K.mc
 ge:Ge W K.dp K.li
 av:∀i b v,s.A i=some (b,v)->jI W v s.c
 sup:mC s.A s.c
 bj:s.J.length<=s.c
 bn:s.N<=s.c/\∀u∈s.xs,u.oneCell'=true
 bc:0<=s.cr/\s.cr<=s.c
 bb:0<=s.back/\s.back<=24000*s.c
 bd:0<=s.depth/\s.depth<=64
def jI.px(h:jI W v c)(b:Px T W W')(d:4∉T)(a:c<=c'):jI W' v c':=
 ⟨⟨h.nonce.1,by have:=h.nonce.2;omega⟩,h.sup.mono a,h.row.px b d,h.code,h.mark⟩
def Mi.px{K:Kc}{s:St}(h:Mi W K s)(c:Px T W W')(a:∀t∈[128,136,262,1000,165,95,4],t∉T):Mi W' K s:=by have⟨lg,e,d⟩:=h.mc;exact⟨h.lf.XV c ⟨a _ dC,a _ dC,a _ dC,a _ dC⟩,⟨lg,c.row e (a _ dC),jX d c (a _ dC)⟩,h.wT,h.ge.px c,fun i b v f=>(h.av i b v f).px c (a _ dC) lR,h.sup,h.bj,h.bn,h.bc,h.bb,h.bd⟩
def Mi.below{K:Kc}{s:St}(h:Mi W K s)(a:Bw W W'):Mi W' K s:=h.px (Px.aF a []) (fun _ _=>sI)
def Mi.qy{K:Kc}{s:St}{f:K7}{a:Int}(h:Mi W K s)(k:LF W' K.l K.m K.d a A' f J')(e:Px LT W W')(m:∀i b v,A' i=some (b,v)->jI W' v c')(l:mC A' c')(n:J'.length<=c')(o:0<=a/\a<=c')(d:s.c<=c'):Mi W' K {s with A:=A',D:=f,J:=J',cr:=a,c:=c'}:=by have⟨lg,j,g⟩:=h.mc;exact⟨k,⟨lg,e.row j,jX g e dC⟩,h.wT,h.ge.px e,m,l,n,⟨aAw h.bn.1 d,h.bn.2⟩,o,⟨h.bb.1,by have:=h.bb.2;show s.back<=24000*(c':Int);omega⟩,h.bd⟩
structure Ex (n:Nat)(s s':St):Prop where
 st:mI n s.A s.D s.J s'.A s'.D s'.J
 c:s.c<=s'.c/\s'.c<=s.c+n
 N:s.N<=s'.N
 xs:s'.xs.take s.xs.length=s.xs
 dp:s'.depth=s.depth
 cr:s.cr<=s'.cr
def Ex.refl(s:St):Ex 0 s s:=⟨.refl _ _ _,⟨aAz _,aAz _⟩,aAz _,sI,rfl,aBq _⟩
def Ex.trans{s b c:St}(h:Ex n s b)(a:Ex n' b c):Ex (n+n') s c:=by
 refine⟨h.st.tr a.st,⟨aAw h.c.1 a.c.1,by have:=h.c.2;have:=a.c.2;omega⟩,aAw h.N a.N,?_,a.dp.tr h.dp,Int.le_trans h.cr a.cr⟩;have d:s.xs.length<=b.xs.length:=by have:=congrArg List.length h.xs;rw[List.length_take] at this;omega
 have e:(c.xs.take b.xs.length).take s.xs.length=s.xs:=by rw[a.xs];exact h.xs
 rw[aCY,aCm d] at e;exact e
def Ex.tr{s b a:St}(h:Ex n s b)(c:Ex n' b a):Ex (n+n') s a:=Ex.trans h c
def Ex.mono{s a:St}(h:Ex n s a)(b:n<=n'):Ex n' s a:=⟨h.st.mono b,⟨h.c.1,by have:=h.c.2;omega⟩,h.N,h.xs,h.dp,h.cr⟩
end
section
variable [aB]
def F9:∃i,zQ.prog.info? 5=some i/\i.zero=some (.int .u8 0)/\i.size=1/\i.bytes=1:=by
 obtain⟨i,c⟩:∃i,zQ.prog.info? 5=some i:=by
  cases h:zQ.prog.info? 5 with
  |none=>have:=congrArg Option.isSome h;rw[show(zQ.prog.info? 5).isSome=true by kernel_rfl] at this;cases this
  |some i=>exact⟨i,rfl⟩
 have e8:(zQ.prog.info? 5).map (·.size)=some 1:=kR
 have a:(zQ.prog.info? 5).map (·.bytes)=some 1:=kR
 have b:(zQ.prog.info? 5).bind (·.zero)=some (vB 0):=kR
 rw[c] at e8 a b;exact⟨i,c,b,aAv e8,aAv a⟩
def VE:zQ.prog.underlying 223=some (.slice 5):=(aC 223).tr underlying223
def zc(k:Nat):Builtin.zeroCells (Value.int .u8 0).cells k=(List.replicate k (Value.int .u8 0)).toArray:=by
 unfold Builtin.zeroCells;apply Array.ext
 .simp[Value.cells]
 .intro j b a;rw[Array.getElem_map,Array.getElem_range];show#[Value.int .u8 0][j % 1]! =_;rw[Nat.mod_one];simp
def GD{need cap:Nat}(h:cap<need)(a:need<1073741824):Builtin.nextslicecap need cap<=281474976710656:=by have:=growslice_fits (bytes:=1) h oM;simpa using this
def VF(h:W.ownsRow aB.b1 5 1 (.slice sv.a sv.n sv.c) xs.length xs)(k:Nat)(S:0<k)(T:xs.length+k<1073741824)(I:aB.b1<=W.heap.size):
  ∃b:SV,∃w',(Builtin.append_ #[223,3] ty #[.slice sv.a sv.n sv.c,.int .i64 (k:Int)]).run zQ.prog W=.ok (.slice b.a b.n b.c) w'/\w'.ownsRow aB.b1 5 1 (.slice b.a b.n b.c) (xs.length+k) (xs++List.replicate k (.int .u8 0))/\Px [5] W w':=by
 have⟨i,G,E,F,w⟩:=F9;have x:iw (k:Int)=k:=iW;have s:¬(k:Int)<0:=oM
 have l:¬(281474976710656<(k:Int)):=oM
 have r:¬k=0:=oM
 have m:∀(a:yj) (n c:Nat),n=xs.length->c<n+k->(Builtin.firstCells 1 n (.sl a n c)).run zQ.prog W.drew=.ok xs.toArray W.drew->
   ∃b:SV,∃w',(Builtin.append_ #[223,3] ty #[.sl a n c,vI (k:Int)]).run zQ.prog W=.ok (.sl b.a b.n b.c) w'/\w'.ownsRow aB.b1 5 1 (.sl b.a b.n b.c) (xs.length+k) (xs++List.replicate k (vB 0))/\Px [5] W w':=by
  rintro a n c rfl R D;have z:=grownCap_ge W (xs.length+k) c 5;have o:=grownCap_le_maxLen W (xs.length+k) c 5 sQ9;have P:¬(xs.length+k<=c):=oM
  have K:¬(9223372036854775807<(xs.length:Int)+(k:Int)):=oM
  have J:¬(281474976710656<Builtin.nextslicecap (xs.length+k) c):=by have:=GD (need:=xs.length+k) R oM;omega
  refine⟨⟨some ⟨W.heap.size,0,none⟩,xs.length+k,grownCap W (xs.length+k) c 5⟩,W.drew.nc (xs.toArray++(List.replicate k (Value.int .u8 0)).toArray++Builtin.zeroCells (Value.int .u8 0).cells (grownCap W (xs.length+k) c 5 - (xs.length+k))) 5,?_,⟨sI,.inr ⟨W.heap.size,_,_,rfl,I,aM W.drew _,z,o,?_,?_⟩⟩,?_⟩
  .simp[Builtin.append_,run_underlying VE,run_underlying u3,sizeOf,typeInfo,zeroValue,G,E,F,w,asInt,asIntOf,x,s,l,r,P,K,J,D,newRow,grownCap,Question.forced,zc]
  .rw[zc];simp;omega
  .rw[zc];simp only[Array.toList_append,aCo];rw[aCW sI,aBP sI]
  .exact Px.aF (bR.drew.aL lR _) _
 have⟨N,L,q⟩:=sv;rcases h.2 with⟨t,A⟩| ⟨g,cap,d,t,u,y,Q,o,M,B⟩
 .cases t;have e:xs=[]:=aAZ A;subst e;exact m none 0 0 rfl oM (run_firstCells_none _ 1 0 0 0)
 .obtain⟨rfl,rfl,rfl⟩:N=some (ad g 0)/\L=xs.length/\q=cap:=by injection t with t A h3;exact⟨t,A,h3⟩
  by_cases f:xs.length+k<=q
  .have p:=run_storeCells_at (P:=zQ.prog) g xs.length 5 (List.replicate k (vB 0)) 0 d W y sQ0 (fun v O=>by rw[aCA O];rfl);simp only[aBd] at p;have C:d.toList.take xs.length=xs:=by simpa using B
   refine⟨⟨some ⟨g,0,none⟩,xs.length+k,q⟩,W.setRow g (d.toList.take xs.length++List.replicate k (Value.int .u8 0)++d.toList.drop (xs.length+(List.replicate k (Value.int .u8 0)).length)).toArray,?_,⟨sI,.inr ⟨g,q,_,rfl,u,setRow_heap W g d _ 5 _ y,f,o,?_,?_⟩⟩,?_⟩
   .simp[Builtin.append_,run_underlying VE,run_underlying u3,sizeOf,typeInfo,zeroValue,G,E,F,w,asInt,asIntOf,x,s,l,r,f,zc,Addr.add_lit];simp at p;rw[p];rfl
   .simp;omega
   .rw[C,aCo,List.toList_toArray,aCW sI,aBP sI]
   .refine⟨rfl,rfl,rfl,sI,fun j H=>?_⟩;by_cases e:j=g
    .subst e;rw[setRow_heap W j d _ 5 _ y,y];exact .inr ⟨by show 5∈[5];decide,by show lw 5<=j;simpa[lw,aB.lo] using u,rfl⟩
    .exact .inl (setRow_other W g j _ e)
  .exact m (some (ad g 0)) xs.length q rfl oM (run_firstCells_some W.drew 1 xs.length ⟨g,0,none⟩ xs.length q xs sI (fun j v H=>by have:=h.cells (g:=g) rfl j v H;simpa using this))
def fL(n:Nat):Nat:=(n+31) / 32
def JJ(w:Nat):Nat:=3*w+w*w / 512
def OH(n:Nat)(a:n<1099511627776)(w:WR):Cq 325 #[vI (n:Int)] w fun e w'=>e=.rt (vI (fL n:Int))/\w'=w:=by
 have w1:iw ((n:Int)+32)=(n:Int)+32:=iW;have w2:iw ((n:Int)+32 - 1)=(n:Int)+32 - 1:=iW;have d1:((n:Int)+32 - 1).tdiv 32=(fL n:Int):=by rw[aBk oM];unfold fL;omega
 have w3:iw (fL n:Int)=(fL n:Int):=IntWalk.i64_in _ ⟨by unfold fL;omega,by unfold fL;omega⟩;go_enter (qz func325),ntmps325;go_wp2;go_ret;exact⟨rfl,rfl⟩
def cg(n:Nat)(c:n<1073741824)(w:WR):Cq 324 #[vI (n:Int)] w fun e w'=>e=.rt (vI (JJ n:Int))/\w'=w:=by
 have b:n*n<1073741824*1073741824:=aBJ c c;obtain⟨p,a⟩:∃p,p=n*n:=⟨_,rfl⟩;obtain⟨q,d⟩:∃q,q=p / 512:=⟨_,rfl⟩;have f:(n:Int)*(n:Int)=(p:Int):=by rw[a];simp
 have w1:iw (3*(n:Int))=3*(n:Int):=iW;have w2:iw (p:Int)=(p:Int):=iW;have d1:(p:Int).tdiv 512=(q:Int):=by rw[aBk oM];omega
 have w3:iw (q:Int)=(q:Int):=iW;have w4:IntKind.i64.wrap (3*(n:Int)+(q:Int))=(JJ n:Int):=by rw[IntWalk.i64_in _ ⟨oM,oM⟩];unfold JJ;rw[<-a];omega
 clear a d b;go_enter (qz func324),ntmps324;go_wp2;go_ret;exact⟨rfl,rfl⟩
def xn(n size:Nat):Nat:=if size<=n then 0 else JJ (fL size) - JJ (fL n)
def JK{a:Nat}(h:a<=b):3*b+JJ a<=JJ b+3*a:=by unfold JJ;have:=aCG h h;omega
def Ga(a:yj)(c n size:Nat)(r:n<1073741824)(q:size<8589934592)(w:WR):Cq 293 #[.sl a n c,vI (size:Int)] w fun e w'=>e=.rt (vI (xn n size:Int))/\w'=w:=by
 unfold xn;by_cases h:size<=n
 .rw[if_pos h];have m:(size:Int)<=(n:Int):=oM
  go_enter (qz func293),ntmps293;go_wp2;go_ret;exact⟨rfl,rfl⟩
 .rw[if_neg h];have m:¬(size:Int)<=(n:Int):=oM
  have b:fL size<1073741824:=by unfold fL;omega
  have k:fL n<1073741824:=by unfold fL;omega
  have i:=OH size oM w;have d:=cg (fL size) b w;have f:=OH n oM w;have g:=cg (fL n) k w;have o:=JK (a:=fL n) (b:=fL size) (by unfold fL;omega);have j:fL n<=fL size:=by unfold fL;omega
  have l:JJ (fL size)<9000000000000000:=by have:=aBJ b b;unfold JJ;omega
  have p:IntKind.i64.wrap ((JJ (fL size):Int) - (JJ (fL n):Int))=((JJ (fL size) - JJ (fL n):Nat):Int):=by rw[IntWalk.i64_in _ ⟨oM,oM⟩];omega
  clear b k o j l;go_enter (qz func293),ntmps293;go_wp2_with fail;apply i.mono;rintro e _ ⟨rfl,rfl⟩;go_wp2_with fail;apply d.mono;rintro e _ ⟨rfl,rfl⟩;go_wp2_with fail;apply f.mono;rintro e _ ⟨rfl,rfl⟩;go_wp2_with fail;apply g.mono;rintro e _ ⟨rfl,rfl⟩;go_wp2;go_ret;exact⟨rfl,rfl⟩
def Gc(h:W.ownsRow b e 1 (.slice mv.a mv.n mv.c) X.length X):mv.n=X.length:=by
 have⟨a,n,c⟩:=mv;rcases h.2 with⟨d,i⟩| ⟨g,cap,f,d,_⟩
 .cases d;exact i.symm
 .cases d;rfl
def VG{K:Fi}{Q:Fg}{v:vZ}(b:o.op=.call {callee:=.builtin .append,args:=#[s,x],argTypes:=#[t,u]})(d:a.eval s=v)(e:a.eval x=y)(c:(Builtin.append_ #[t,u] o.type #[v,y]).run P w=.ok z w')(h:K (a.put o.dst z) w'):o.wp P a w K Q:=by unfold Oper.wp execOp;simp only[b,resolve,invoke,builtin,Sem.run_bind,Sem.run_pure,Result.andThen_ok,List.map_toArray,aBl,aCC,d,e,c];exact h
def BL{c:DQ}{b:List Oper}{Q:Fg}{v:vZ}(d:o.guard=none)(e:o.op=.call {callee:=.builtin .append,args:=#[s,x],argTypes:=#[t,u]})(f:a.eval s=v)(j:a.eval x=y)(g:(Builtin.append_ #[t,u] o.type #[v,y]).run P w=.ok z w')(h:wpList P c Q b (a.put o.dst z) w'):wpList P c Q (o::b) a w:=
 wpList_plain d fun _ i=>VG e f j g (i _ _ h)
def dT.mn(h:dT W f F sv mv S X):mv.n=X.length:=Gc h.me
def dT.below(h:dT W f F sv mv S X)(a:Bw W W'):dT W' f F sv mv S X:=h.px (Px.aF a []) dC
def fU{c c':Ff}(h:W.heap[f]?=ob c 225)(i:W'.heap[f]?=ob c' 225){d:K4}(e:aU [f] d W W')(j:∀t∈d,t∈T/\t≠225)(a:225∈T)(b:aB.b1<=f):Px T W W':=
 e.px (fun k g _=>by
  obtain rfl:k=f:=by simpa using g
  rw[h,i];exact⟨a,b,rfl⟩) j
def dT.cells(h:dT W f F sv mv S X){F':fC}(d:W'.heap[f]?=ob (iE F' sv mv) 225)(a:Px [225] W W')(c:F'.mark=F.mark)(b:F'.data=F.data):dT W' f F' sv mv S X:=
 ⟨d,h.lo,yY h.st a dC,h.sm,jX h.me a dC,h.mb,c▸h.ma.px a dC,b▸h.da.eT a⟩
def Gd(h:dT W f F sv mv S X)(size:Nat)(N:size<1099511627776)(Q:X.length<1073741824)(H:fL size*32<1073741824):
   Cq 294 #[pq f 15,vI (size:Int)] W fun e w'=>e=rU/\∃b z,dT w' f F sv b S z/\z.length=max X.length (fL size*32)/\Px [225,5] W w':=by
 have i:=US h.mn;have O:iw ((fL size:Int)*32)=(fL size:Int)*32:=iW;have C:iw ((fL size:Int)*32 - (mv.n:Int))=(fL size:Int)*32 - (mv.n:Int):=by have:=i.out;exact iW
 have M:=aG h.fc;go_enter (qz func294),ntmps294;go_wp2_with fail;refine rq (fun V=>V.heap[f]?=ob (iE F sv mv) 225) h.fc fun n=>?_;refine t3 0 3 4 n ?_;refine tV 5 (fun _ E=>bq E 15) n ?_;refine t1 6 n ?_;refine rA 1 fun K I=>?_;go_simp;apply(OH size N _).mono;rintro e R ⟨rfl,rfl⟩;go_wp2_with fail;refine I.out _ _ n fun n=>?_;refine t3 2 7 8 n ?_;refine dn ?_;have m:Bw W W.drew:=bR.drew;have l:=h.below m;by_cases A:(fL size:Int)*32 - (mv.n:Int)>0
 .obtain⟨k,u⟩:∃k:Nat,(fL size:Int)*32 - (mv.n:Int)=(k:Int):=⟨fL size*32 - mv.n,oM⟩;rw[u];rw[u] at A;have w:(0:Int)<(k:Int):=oM
  have⟨b,w',r,j,p⟩:=VF (ty:=223) l.me k oM (by have:=i.out;omega) l.st.low;have c:=p.row l.fc;have T:=bq l.fc 15;have P:=bq c 15;have J:=aQ c 15;have G:=aG c;have v:=US u;clear O C u A;go_wp2_with (at_builtin;go_loud (refine BL rI rI rI rI r ?_))
  go_wp2;simp[bodyPost,results,results294,go_sem];have o:=aO (i:=15) (v:=.sl b.a b.n b.c) c;have d:=fU (T:=[225,5]) c o (aU.sC w' f 15 _) (fun t a=>by cases a) dC h.lo;have y:Px [225,5] W _:=(Px.aF m _).tr ((p.mono (fun t a=>by simp at a;simp[a])).tr d);have B:X.length+k=fL size*32:=by have:=i.out;have:=v.out;omega
  refine⟨b,X++List.replicate k (vB 0),⟨o,h.lo,yY l.st ((p.mono (T':=[225,5]) (fun t a=>by simp at a;simp[a])).tr d) dC,h.sm,?_,fun x s=>?_,l.ma.px ((p.mono (T':=[225,5]) (fun t a=>by simp at a;simp[a])).tr d) dC,l.da.eT ((p.mono (T':=[225,5]) (fun t a=>by simp at a;simp[a])).tr d)⟩,by simp;omega,y⟩
  · have e:(X++List.replicate k (Value.int .u8 0)).length=X.length+k:=sI
    rw[e];exact dM j fun g D=>heap_setCell_other w' ⟨f,15,none⟩ g _ (fun e=>by have⟨L,q⟩:=cL j g D;exact dP q c dC e)
  · rcases aAL.1 s with s|s
    · exact h.mb x s
    · exact⟨0,dC,aCA s⟩
 .have w:¬(0:Int)<(fL size:Int)*32 - (mv.n:Int):=oM
  go_wp2;simp[bodyPost,results,results294,go_sem];exact⟨mv,X,l,by have:=i.out;omega,Px.aF m _⟩
end
end Go.Mark
