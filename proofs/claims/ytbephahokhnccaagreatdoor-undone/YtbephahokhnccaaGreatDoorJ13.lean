import Derived.Test.YtbephahokhnccaaGreatDoorJ12
set_option linter.all false
set_option maxRecDepth 100000
set_option maxHeartbeats 8000000
namespace Go.Mark
open Go.RowKit Go.Proofs Go.Proofs.Tryz
variable{K:Kc}{S:K4}{X J2:K3}{f x n g c l:Nat}{sv mv:SV}{s:St}{t:Fh}{v E:vZ}{W W':WR}{F:fC}
section
variable [aB]
def dT.Lf{a:K4}(h:dT W f F sv mv S X){sv':SV}(d:W'.heap[f]?=ob (iE F sv' mv) 225)(e:FO W' sv' a)(b:Px [225,41] W W')(c:∀x∈a,x<M):dT W' f F sv' mv a X:=
 ⟨d,h.lo,e,c,jX h.me b dC,h.mb,h.ma.px b dC,h.da.eT b⟩
def yZ(h:dT W f F sv mv S X)(x:Nat)(l:x<M)(k:S.length<99999):
  Cq 300 #[pq f 14,wd x] W fun e c=>e=rU/\(∃a,dT c f F a mv (S++[x]) X)/\Px [225,41] W c:=by
 apply(Ah h.st h.fc (o:=14) rfl dC x k).mono;rintro e c ⟨a,rfl,g,j,h3⟩;have d:Px [225,41] W c:=fU h.fc g h3 (fun t i=>by simp at i;simp[i]) dC h.lo;exact⟨rfl,⟨a,h.Lf g j d (fun y b=>by
  rcases aAL.1 b with b|b
  .exact h.sm y b
  .rw[aAB.1 b];exact l)⟩,d⟩
def Gf(h:dT W f F sv mv (S++[x]) X):
  Cq 296 #[pq f 14] W fun e b=>e=.rt (wd x)/\(∃a,dT b f F a mv S X)/\Px [225] W b:=by
 apply(QO h.st h.fc (o:=14) rfl dC).mono;rintro e b ⟨rfl,g,i,h3⟩;have d:Px [225] W b:=fU h.fc g h3 (fun t c=>by cases c) dC h.lo;exact⟨rfl,⟨_,h.Lf (sv':=⟨sv.a,S.length,sv.c⟩) g i (d.mono (fun t c=>by simp at c;simp[c])) (fun y j=>h.sm y (List.mem_append_left _ j))⟩,d⟩
def Qa(h:dT W f F sv mv S X)(i:Nat)(d:0<i)(g:i<=S.length):
  Cq 319 #[.sl sv.a sv.n sv.c,vI (i:Int)] W fun e a=>∃x,S[S.length - i]?=some x/\x<M/\e=.rt (wd x)/\Bw W a:=by
 have b:S[S.length - i]?=some (S[S.length - i]'oM):=aAG oM;apply(xg h.st i d b oM).mono;rintro e a ⟨rfl,c⟩;exact⟨_,b,h.sm _ (aBf _),rfl,c⟩
def To(W:WR)(K:Kc)(s:St)(n:Nat)(b:WR):Prop:=∃a,Mi b K a/\Ex n s a/\Px LT W b/\a.N=s.N/\a.xs=s.xs/\a.back=s.back
def xo(W:WR)(ms c:Nat):jI W ⟨0,0,⟨#[]⟩,⟨none,0,0⟩,ms,fun _=>0⟩ c:=
 ⟨⟨aBq 0,by show(0:Int)<=_;omega⟩,⟨[],aBa _,fun _ h=>absurd rfl h⟩,.inl rfl,by show 0<_;decide,by show 0<_;decide⟩
def sO{A:AM}(h:mC A c)(i:Int)(f:Ir i)(x:Option (Nat×Av)):mC (up A i x) (c+1):=by
 have⟨d,g,b,h3⟩:=h;refine⟨i::d,by simp;omega,fun k a=>?_,fun k a=>(aAx.1 a).elim (fun e=>e▸f) (h3 k)⟩;unfold up at a;split at a
 .rename_i e;simp[e]
 .exact aAR _ (b k a)
def Mi.up(h:Mi W K s){i:Int}(q:Ir i){b:Nat}{v d:Av}{p:K3}(l:Tc s.A i b v s.J p)(o:LF W' K.l K.m K.d s.cr (up s.A i (some (b,d))) s.D J2)(g:Px LT W W')(r:jI W' v s.c->jI W' d (s.c+2))(e:mI 2 s.A s.D s.J (Go.Mark.up s.A i (some (b,d))) s.D J2):∃a,Mi W' K a/\Ex 2 s a/\a.A=Go.Mark.up s.A i (some (b,d))/\a.D=s.D/\a.J=J2/\a.N=s.N/\a.xs=s.xs/\a.back=s.back:=by
 have k:jI W' v s.c:=by
  rcases l with⟨n,_⟩| ⟨_,⟨ms,rfl⟩,_⟩
  .exact(h.av i b v n).px g dC lR
  .exact xo _ _ _
 refine⟨{s with A:=Go.Mark.up s.A i (some (b,d)),J:=J2,c:=s.c+2},h.qy o g (fun j m u f=>?_) ((sO h.sup i q _).mono oM) ?_ ⟨h.bc.1,by have:=h.bc.2;show s.cr<=((s.c+2:Nat):Int);omega⟩ oM,⟨e,⟨by show s.c<=s.c+2;omega,aAz _⟩,aAz _,sI,rfl,aBq _⟩,rfl,rfl,rfl,rfl,rfl,rfl⟩
 .unfold Go.Mark.up at f;split at f
  .cases f;exact r k
  .exact(h.av j m u f).px g dC oM
 .have:=e.len.1;have:=h.bj;omega
def Mi.to{X:AM}(h:∃a,Mi W' K a/\Ex 2 s a/\a.A=X/\a.D=s.D/\a.J=J2/\a.N=s.N/\a.xs=s.xs/\a.back=s.back)(b:Px LT W W')(f:2<=n):To W K s n W':=
 let⟨a,d,c,_,_,_,h3,h4,e⟩:=h
 ⟨a,d,c.mono f,b,h3,h4,e⟩
end
section
variable [aB]
attribute [local go_sem] wd
def As(a n:Nat)(K:a<M)(D:n<M)(C:W.cA 1 0=some E)(A:1<W.heap.size):
   Cq 318 #[wd a,wd n] W fun e H=>Bw W H/\((∃size:Nat,size<=4294967296/\(n=0\/a+n<=size)/\e=.rt (.tuple #[vI size,.nilIface]))\/e=.rt (.tuple #[vI 0,E])):=by
 have B:=wP n D;by_cases d:n=0
 .rw[decide_eq_true d] at B;have m:=US d;clear d;go_enter (qz func318),ntmps318;go_wp2;simp[bodyPost,results,results318,go_sem];exact⟨(ba).tr ((ba).mono sI),.inl ⟨0,dC,.inl m.out,rfl⟩⟩
 .rw[decide_eq_false d] at B;have i:=fun w=>sum a n K D w;have o:Bw W ((W.nc (wq a) 41).nc (wq n) 41):=(ba).tr ((ba).mono sI);have m:=US d;clear d;go_enter (qz func318),ntmps318;go_wp2_with fail;apply(i _).mono;rintro e w1 ⟨rfl,y⟩;clear i;have F:(a+n) % M<M:=aBE _ dC;have h:=less 4294967296 ((a+n) % M) dC F;rw[iU 4294967296 dC] at h;have f:=o.tr (y.mono o.size);obtain⟨c,z⟩:∃c,c=(a+n) / M:=⟨_,rfl⟩;obtain⟨s,t⟩:∃s,s=(a+n) % M:=⟨_,rfl⟩;have x:Shut (a+n=M*c+s):=by rw[z,t];exact(aDj _ _).symm
  rw[<-t] at h F;rw[<-t,<-z];clear z t;by_cases u:c=0
  · subst u
    go_wp2_with fail;apply(h _).mono;rintro e w2 ⟨rfl,q⟩;clear h;have g:Bw w1 (w1.nc (wq s) 41):=ba;have b:=f.tr ((g.tr (q.mono g.size)).mono f.size);have j:=(b.cell (p:=(ad 1 0)) A).tr C;have r:=(q.block _ sI).tr (aM w1 (.ce (wq s) 41));have J:=aG r;by_cases k:4294967296<s
    · have G:decide (4294967296<s)=true:=by simpa using k
      go_wp2_with fail;refine rq (fun V=>V.cA 1 0=some E) j fun p=>?_;refine tV 0 (fun _ v=>v) p ?_;refine t2 1 2 p ?_;refine dn ?_;go_wp2;simp[bodyPost,results,results318,go_sem];exact b.drew
    · have G:decide (4294967296<s)=false:=by simpa using k
      have l:Shut (s<=4294967296):=by show s<=4294967296;omega
      have I:aI s 0=(s:Int):=(eL s oM).1;have O:=bq r 0;have L:iw (s:Int)=s:=iW;clear k;go_wp2;simp[bodyPost,results,results318,go_sem];exact⟨b,.inl ⟨s,l.out,.inr (by have:=x.out;omega),rfl⟩⟩
  · have N:¬(c:Int)=0:=oM
    have g:Bw w1 (w1.nc (wq s) 41):=ba;have b:=f.tr (g.mono f.size);have j:=(b.cell (p:=(ad 1 0)) A).tr C;go_wp2_with fail;refine rq (fun V=>V.cA 1 0=some E) j fun p=>?_;refine tV 0 (fun _ v=>v) p ?_;refine t2 1 2 p ?_;refine dn ?_;go_wp2;simp[bodyPost,results,results318,go_sem];exact b.drew
def tw(S:K4)(i:Nat):Nat:=S[S.length - i]?.getD 0
def Wi(a n size:Nat):Prop:=n=0\/a+n<=size
def Wi.mono{a z b:Nat}(h:Wi a n z)(c:z<=b):Wi a n b:=h.imp id fun h=>aAw h c
def Tz(x:Nat)(S:K4)(size:Nat):Prop:=
 (x=41\/x=42->tw S 1+32<=size)/\(x=43->tw S 1+1<=size)/\(x=50\/x=63->Wi (tw S 1) (tw S 2) size)/\(x=60->Wi (tw S 2) (tw S 3) size)/\(x=61->Wi (tw S 4) (tw S 5) size/\Wi (tw S 6) (tw S 7) size)/\(x=62->Wi (tw S 3) (tw S 4) size/\Wi (tw S 5) (tw S 6) size)
def eO(h:dT W f F sv mv S X)(i:Nat):tw S i<M:=by
 unfold tw;cases a:S[S.length - i]? with
 |none=>show(0:Nat)<M;decide
 |some x=>exact h.sm x (aBj a)
def AK(h:dT W f F sv mv S X)(i:Nat)(c:0<i)(g:i<=S.length):
  Cq 319 #[.sl sv.a sv.n sv.c,vI (i:Int)] W fun e a=>e=.rt (wd (tw S i))/\Bw W a:=by
 apply(Qa h i c g).mono;rintro e a ⟨x,d,_,rfl,b⟩;exact⟨by unfold tw;rw[d];rfl,b⟩
def AN(E:vZ)(Q:Nat->Prop)(e:Ending):Prop:=∃a b,e=.returned (.tuple #[.int .i64 a,b])/\((b=.nilIface/\∃size:Nat,a=size/\size<=4294967296/\Q size)\/b=E)
def oI(a n:Nat)(g:a<M)(i:n<M)(f:W.cA 1 0=some E)(b:1<W.heap.size):
  Cq 318 #[wd a,wd n] W fun e c=>Bw W c/\AN E (Wi a n) e:=by
 apply(As a n g i f b).mono;rintro e c ⟨d,⟨size,b,h,rfl⟩|rfl⟩
 .exact⟨d,_,_,rfl,.inl ⟨rfl,size,rfl,b,h⟩⟩
 .exact⟨d,_,_,rfl,.inr rfl⟩
def Gg(h:dT W f F sv mv S X)(i:Nat)(T:0<i)(hn:i+3<=S.length)(P:W.cell? ⟨1,0,none⟩=some (.iface t v))(I:1<W.heap.size):
   Calls zQ.prog 320 #[pq f 0,.int .i64 (i:Int)] W fun e c=>Below W.heap.size W c/\AN (.iface t v) (fun size=>Wi (tw S i) (tw S (i+1)) size/\Wi (tw S (i+2)) (tw S (i+3)) size) e:=by
 have hS:S.length<100000:=h.st.num;have U:IntKind.i64.wrap ((i:Int)+1)=(i:Int)+1:=IntWalk.i64_in _ ⟨oM,oM⟩;have R:IntKind.i64.wrap ((i:Int)+2)=(i:Int)+2:=IntWalk.i64_in _ ⟨oM,oM⟩;have Q:IntKind.i64.wrap ((i:Int)+3)=(i:Int)+3:=IntWalk.i64_in _ ⟨oM,oM⟩;have o:∀w,Below W.heap.size W w->Calls zQ.prog 319 #[.slice sv.a sv.n sv.c,.int .i64 ((i:Int)+1)] w fun e c=>e=.returned (wd (tw S (i+1)))/\Below w.heap.size w c:=fun w d=>AK (h.below d) (i+1) oM oM;have m:∀w,Below W.heap.size W w->Calls zQ.prog 319 #[.slice sv.a sv.n sv.c,.int .i64 ((i:Int)+2)] w fun e c=>e=.returned (wd (tw S (i+2)))/\Below w.heap.size w c:=fun w d=>AK (h.below d) (i+2) oM oM;have l:∀w,Below W.heap.size W w->Calls zQ.prog 319 #[.slice sv.a sv.n sv.c,.int .i64 ((i:Int)+3)] w fun e c=>e=.returned (wd (tw S (i+3)))/\Below w.heap.size w c:=fun w d=>AK (h.below d) (i+3) oM oM;have p:∀w,Below W.heap.size W w->Calls zQ.prog 318 #[wd (tw S i),wd (tw S (i+1))] w fun e c=>Below w.heap.size w c/\AN (.iface t v) (Wi (tw S i) (tw S (i+1))) e:=fun w d=>oI _ _ (eO h _) (eO h _) ((d.cell (p:=⟨1,0,none⟩) I).trans P) (Nat.lt_of_lt_of_le I d.size);have n:∀w,Below W.heap.size W w->Calls zQ.prog 318 #[wd (tw S (i+2)),wd (tw S (i+3))] w fun e c=>Below w.heap.size w c/\AN (.iface t v) (Wi (tw S (i+2)) (tw S (i+3))) e:=fun w d=>oI _ _ (eO h _) (eO h _) ((d.cell (p:=⟨1,0,none⟩) I).trans P) (Nat.lt_of_lt_of_le I d.size);go_enter (qz func320),Tryz.ntmps320;go_wp2_with fail
 refine rq (fun V=>V.heap[f]?=ob (iE F sv mv) 225) h.fc (fun a=>?_);refine t3 0 1 2 a ?_;refine tV 3 (fun _ x=>bq x 14) a ?_;refine t4 4 6 7 8 a ?_;refine tV 9 (fun _ x=>bq x 14) a ?_;refine t2 10 11 a ?_;refine rA 5 (fun K b=>?_);go_simp;refine(AK (h.below (Below.refl _ _).drew) i T oM).mono ?_;rintro e w1 ⟨rfl,G⟩;go_wp2_with fail
 refine b.out _ _ (bk G a) (fun a=>?_);clear b K;have s:Below W.heap.size W w1:=(Below.refl _ _).drew.trans G;refine rA 12 (fun K b=>?_);go_simp;refine(o w1 s).mono ?_;rintro e w2 ⟨rfl,D⟩;go_wp2_with fail
 refine b.out _ _ (bk D a) (fun a=>?_);clear b K;have y:=s.trans (D.mono s.size);refine rA 13 (fun K b=>?_);go_simp;refine(p w2 y).mono ?_;rintro e w3 ⟨H,a1,v1,rfl,N⟩;go_wp2_with fail
 refine b.out _ _ (bk H a) (fun a=>?_);clear b K;refine t5 14 15 16 17 18 a ?_;refine dn ?_;have g:=y.trans (H.mono y.size);clear o p;rcases N with⟨rfl,L,rfl,A,j⟩|rfl
 .go_wp2_with fail
  refine rq (fun V=>V.heap[f]?=ob (iE F sv mv) 225) (h.below g).fc (fun a=>?_);refine t3 0 1 2 a ?_;refine tV 3 (fun _ x=>bq x 14) a ?_;refine t5 4 5 7 8 9 a ?_;refine tV 10 (fun _ x=>bq x 14) a ?_;refine t2 11 12 a ?_;refine rA 6 (fun K b=>?_);go_simp;refine(m _ g.drew).mono ?_;rintro e w4 ⟨rfl,E⟩;go_wp2_with fail
  refine b.out _ _ (bk E a) (fun a=>?_);clear b K;have r:=g.drew.trans (E.mono g.size);refine rA 13 (fun K b=>?_);go_simp;refine(l _ r).mono ?_;rintro e Z ⟨rfl,B⟩;go_wp2_with fail
  refine b.out _ _ (bk B a) (fun a=>?_);clear b K;have u:=r.trans (B.mono r.size);refine rA 14 (fun K b=>?_);go_simp;refine(n _ u).mono ?_;rintro e Y ⟨z,a2,v2,rfl,M⟩;go_wp2_with fail
  refine b.out _ _ (bk z a) (fun a=>?_);clear b K;refine t5 15 16 17 18 19 a ?_;refine dn ?_;have O:=u.trans (z.mono u.size);clear m l n U R Q;go_wp2;all_goals
   simp[bodyPost,results,Tryz.results320,go_sem];refine⟨O,_,_,rfl,?_⟩;rcases M with⟨rfl,J,rfl,C,k⟩|rfl
   .first|exact .inl ⟨rfl,J,rfl,C,j.mono oM,k⟩|exact .inl ⟨rfl,L,rfl,A,j,k.mono oM⟩|(rcases Nat.le_total L J with q|q;exact .inl ⟨rfl,J,by exact oM,C,j.mono q,k⟩;exact .inl ⟨rfl,L,by exact oM,A,j,k.mono q⟩)
   .exact .inr rfl
 .go_wp2;simp[bodyPost,results,Tryz.results320,go_sem];exact⟨g,_,_,rfl,.inr rfl⟩
def cu(A B:K4)(y x:Nat):lZ (fw (A++y::B)) (A.length*4) (w4 x)=fw (A++x::B):=by rw[uH,uH,<-OB A];show lZ (fw A++(w4 y++fw B)) _ _=fw A++(w4 x++fw B);rw[<-aBL,<-aBL];exact DC _ _ _ _ rfl
def cx{i d:K3}(h:W.grownBy W' (some g))(f:W.ownsRow aB.b1 41 4 (.slice (some ⟨g,0,none⟩) n c) n i)(e:W'.ownsRow aB.b1 41 4 (.slice (some ⟨g,0,none⟩) n c) n d):Px [41] W W':=
 (aU.grown (v:=.sl (some (ad g 0)) n c) h aB.Ad f e).px (fun k b=>by cases b) (fun t a=>by simp at a;simp[a])
def Gh{T U:K4}{y:Nat}(j:FO W sv (T++y::(U++[x]))):
    Cq 338 #[.sl sv.a sv.n sv.c,vI ((U.length+2:Nat):Int)] W fun e w=>e=rU/\FO w sv (T++x::(U++[y]))/\Px [41] W w:=by
 obtain⟨p,t⟩:∃p,p=T.length:=⟨_,rfl⟩;obtain⟨q,A⟩:∃q,q=T.length+1+U.length:=⟨_,rfl⟩;have⟨g,k,G,c0,P,c2,c3⟩:=j.cells (j:=p) (x:=y) (by rw[t];simp);have⟨b,i,_,c4,Q,c6,N⟩:=j.cells (j:=q) (x:=x) (by rw[A,show T.length+1+U.length=T.length+(1+U.length) by omega,aBn oM];simp[aDi 1]);have u:b=g:=by rw[k] at i;cases i;rfl
 subst u;have o:=j.n;have v:=j.num;have⟨Y,f,E⟩:=sv;simp only at k o⊢;subst k;have⟨F,a⟩:=cL j.own b rfl;have n:(T++y::(U++[x])).length=q+1:=by simp;omega
 have r:f=q+1:=o.tr n;have H:(p:Int)<(f:Int):=oM
 have R:(q:Int)<(f:Int):=oM
 have Z:(f:Int) - 1=(q:Int):=oM
 have O:(f:Int) - ((U.length:Int)+2)=(p:Int):=oM
 have e3:iw (q:Int)=(q:Int):=iW;have e4:iw (p:Int)=(p:Int):=iW;have I:=aQ a (p*4);have M:=aQ a (q*4);have J:=aQ a (p*4+1);have k1:=aQ a (q*4+1);have S:=aQ a (p*4+2);have X:=aQ a (q*4+2);have f3:=aQ a (p*4+3);have L:=aQ a (q*4+3);have h:FO (((((((((W.sA b (q*4) (vL y 0)).sA b (q*4+1) (vL y 1)).sA b (q*4+2) (vL y 2)).sA b (q*4+3) (vL y 3)).sA b (p*4) (vL x 0)).sA b (p*4+1) (vL x 1)).sA b (p*4+2) (vL x 2)).sA b (p*4+3) (vL x 3)).drew) ⟨some ⟨b,0,none⟩,f,E⟩ (T++x::(U++[y]))/\Px [41] W (((((((((W.sA b (q*4) (vL y 0)).sA b (q*4+1) (vL y 1)).sA b (q*4+2) (vL y 2)).sA b (q*4+3) (vL y 3)).sA b (p*4) (vL x 0)).sA b (p*4+1) (vL x 1)).sA b (p*4+2) (vL x 2)).sA b (p*4+3) (vL x 3)).drew):=by
  have z:W.ownsRow aB.b1 41 4 (.sl (some (ad b 0)) f E) f (fw (T++y::(U++[x]))):=by have:=j.own;rw[<-o] at this;exact this
  have m:=wW (w4 y) W _ (q*4) z;have l:=wW (w4 x) _ _ (p*4) m.1;have C:=cu (T++y::U) [] x y;rw[show(T++y::U).length=q by simp;omega,aBL] at C;have D:=cu T (U++[y]) y x;rw[<-t] at D;rw[show lZ (fw (T++y::(U++[x]))) (q*4) (w4 y)=fw (T++y::(U++[y])) from by simpa using C] at l m;rw[D] at l;have B:=cx m.2 z m.1;have p2:=cx l.2 m.1 l.1;have s:Below ((W.setCells b (q*4) (w4 y)).setCells b (p*4) (w4 x)).heap.size _ ((W.setCells b (q*4) (w4 y)).setCells b (p*4) (w4 x)).drew:=bR.drew;refine⟨⟨?_,by simp;omega,?_⟩,(B.tr p2).tr (Px.aF s _)⟩
  · have:=dI l.1 s
    rw[show(T++x::(U++[y])).length=f by simp;omega];exact this
  · exact aAw j.low ((B.tr p2).tr (Px.aF s _)).size
 clear o v n r t A j;go_enter (qz func338),ntmps338;go_wp2_with fail;refine rq (fun V=>True) trivial fun d=>?_;refine t6 0 1 2 3 4 5 d ?_;refine t4 6 8 9 10 d ?_;refine wpAnyH_ready (rs:=[7,11]) kR sI ?_;refine AllReadyH.cons rfl (fun K c=>?_) (AllReadyH.cons rfl (fun K c=>?_) AllReadyH.nil)
 · skip
   go_simp;refine c.out _ _ trivial fun d=>?_;refine rA 11 fun K c=>?_;go_simp;refine c.out _ _ trivial fun d=>?_;refine t1 12 d ?_;refine rA 13 fun K c=>?_;go_simp;refine c.out _ _ trivial fun d=>?_;refine t1 14 d ?_;refine rA 15 fun K c=>?_;go_simp;refine c.out _ _ trivial fun d=>?_;refine dn ?_;show bodyPost zQ.prog f338 _ Exit.normal _ _;simp[bodyPost,results,results338,go_sem];exact h
 · skip
   go_simp;refine c.out _ _ trivial fun d=>?_;refine rA 7 fun K c=>?_;go_simp;refine c.out _ _ trivial fun d=>?_;refine t1 12 d ?_;refine rA 13 fun K c=>?_;go_simp;refine c.out _ _ trivial fun d=>?_;refine t1 14 d ?_;refine rA 15 fun K c=>?_;go_simp;refine c.out _ _ trivial fun d=>?_;refine dn ?_;show bodyPost zQ.prog f338 _ Exit.normal _ _;simp[bodyPost,results,results338,go_sem];exact h
end
section
variable [aB]
def BM(x:Nat):Option (Nat×Nat×Nat):=
 if x<=64 then[some (0,0,0),some (2,1,3),some (2,1,3),some (2,1,5),some (2,1,5),some (2,1,5),some (2,1,5),some (2,1,5),some (3,1,8),some (3,1,8),some (2,1,10),some (2,1,5),some (2,1,3),some (2,1,3),some (2,1,3),some (2,1,3),some (2,1,3),some (1,1,3),some (2,1,3),some (2,1,3),some (2,1,3),some (1,1,3),some (2,1,3),none,some (0,1,2),some (1,1,20),some (0,1,2),some (0,1,2),some (0,1,2),some (1,1,3),some (0,1,2),some (0,1,2),some (0,1,2),none,none,none,none,none,none,none,some (1,0,2),some (1,1,3),some (2,0,3),some (2,0,3),some (1,1,50),some (2,0,5000),some (1,0,8),some (2,0,10),some (0,0,1),none,some (3,0,375),none,none,none,none,none,none,none,none,none,some (3,1,32000),some (7,1,40),some (6,1,40),some (2,0,0),some (1,0,0)][x]?.join
 else if x<96 then none else if x<=127 then some (0,1,3) else if x<=143 then some (x - 127,x - 126,3) else if x<=159 then some (x - 142,x - 142,3) else none
def RD:Option (Nat×Nat×Nat)->vZ
 |some (t,l,g)=>.tuple #[.agg #[.int .i64 t,.int .i64 l,.int .i64 g],.bool true]
 |none=>.tuple #[.agg #[.int .i64 0,.int .i64 0,.int .i64 0],.bool false]
def L5(x:Nat)(l:65<=x)(j:x<256)(w:WR):Cq 317 #[vI (x:Int)] w fun e d=>e=.rt (RD (BM x))/\Bw w d:=by
 have a:¬x<=64:=oM
 unfold BM;rw[if_neg a];by_cases c:x<96
 .rw[if_pos c];have i:¬(96:Int)<=x:=oM
  have b:¬(128:Int)<=x:=oM
  have f:¬(144:Int)<=x:=oM
  go_enter zQ.func317,ntmps317;go_wp2;simp[bodyPost,results,results317,go_sem,RD];exact ba
 .rw[if_neg c];have i:(96:Int)<=x:=oM
  by_cases c2:x<=127
  .rw[if_pos c2];have b:(x:Int)<=127:=oM
   go_enter zQ.func317,ntmps317;go_wp2;simp[bodyPost,results,results317,go_sem,RD];exact ba
  .rw[if_neg c2];have b:¬(x:Int)<=127:=oM
   have f:(128:Int)<=x:=oM
   by_cases c3:x<=143
   .rw[if_pos c3];have g:(x:Int)<=143:=oM
    have w1:iw ((x:Int) - 128)=(x:Int) - 128:=iW;have w2:IntKind.i64.wrap ((x:Int) - 128+1)=((x - 127:Nat):Int):=by rw[IntWalk.i64_in _ ⟨oM,oM⟩];omega
    have w3:IntKind.i64.wrap (((x - 127:Nat):Int)+1)=((x - 126:Nat):Int):=by rw[IntWalk.i64_in _ ⟨oM,oM⟩];omega
    go_enter zQ.func317,ntmps317;go_wp2;simp[bodyPost,results,results317,go_sem,RD];exact ba
   .rw[if_neg c3];have g:¬(x:Int)<=143:=oM
    have k:(144:Int)<=x:=oM
    by_cases c4:x<=159
    .rw[if_pos c4];have h:(x:Int)<=159:=oM
     have w1:iw ((x:Int) - 144)=(x:Int) - 144:=iW;have w2:IntKind.i64.wrap ((x:Int) - 144+2)=((x - 142:Nat):Int):=by rw[IntWalk.i64_in _ ⟨oM,oM⟩];omega
     go_enter zQ.func317,ntmps317;go_wp2;simp[bodyPost,results,results317,go_sem,RD];exact ba
    .rw[if_neg c4];have h:¬(x:Int)<=159:=oM
     go_enter zQ.func317,ntmps317;go_wp2;simp[bodyPost,results,results317,go_sem,RD];exact ba
def qx(x:Nat)(h:¬x<=64)(j:x<256)(w:WR):Cq 290 #[vB (x:Int)] w fun e d=>e=.rt (RD (BM x))/\Bw w d:=by
 have i:=L5 x oM j;have T:iw (x:Int)=x:=iW;have S:¬(x:Int)=0:=oM
 have k:¬(x:Int)=63:=oM
 have u:¬(x:Int)=64:=oM
 have P:¬(x:Int)=48:=oM
 have q:¬(x:Int)=24:=oM
 have M:¬(x:Int)=26:=oM
 have E:¬(x:Int)=27:=oM
 have J:¬(x:Int)=28:=oM
 have r:¬(x:Int)=30:=oM
 have n:¬(x:Int)=31:=oM
 have o:¬(x:Int)=32:=oM
 have z:¬(x:Int)=40:=oM
 have F:¬(x:Int)=29:=oM
 have G:¬(x:Int)=41:=oM
 have H:¬(x:Int)=42:=oM
 have N:¬(x:Int)=43:=oM
 have s:¬(x:Int)=46:=oM
 have v:¬(x:Int)=47:=oM
 have O:¬(x:Int)=25:=oM
 have K:¬(x:Int)=44:=oM
 have L:¬(x:Int)=50:=oM
 have I:¬(x:Int)=45:=oM
 have p:¬(x:Int)=60:=oM
 have m:¬(x:Int)=61:=oM
 have y:¬(x:Int)=62:=oM
 have B:¬(x:Int)<=22:=oM
 clear j h;go_enter (qz func290),ntmps290;go_wp2_with fail;apply(i _).mono;rintro e d ⟨rfl,f⟩;clear i;have b:=(ba (w:=w) (o:=.ce #[vI 0,vI 0,vI 0] 369)).tr (f.mono sI);have a:=(f.block _ sI).tr (aM w (.ce #[vI 0,vI 0,vI 0] 369));have D:=aG a;have A:=bq a 0;have C:=bq a 1;have c2:=bq a 2;have Q:=aQ a 0;have R:=aQ a 1;have U:=aQ a 2;rcases hsx:BM x with _| ⟨t,l,g⟩;all_goals
  have c:=US hsx;clear hsx;unfold RD;go_wp2;simp[bodyPost,results,results290,go_sem,A,C,c2];refine⟨by rw[c.out];rfl,?_⟩;refine Below.sC (Below.sC (Below.sC b ?_ _) ?_ _) ?_ _<;>exact aAz _
def cz(x:Nat)(h:x<=64)(w:WR):Cq 290 #[vB (x:Int)] w fun e a=>e=.rt (RD (BM x))/\Bw w a:=by
 have b:x=0\/x=1\/x=2\/x=3\/x=4\/x=5\/x=6\/x=7\/x=8\/x=9\/x=10\/x=11\/x=12\/x=13\/x=14\/x=15\/x=16\/x=17\/x=18\/x=19\/x=20\/x=21\/x=22\/x=23\/x=24\/x=25\/x=26\/x=27\/x=28\/x=29\/x=30\/x=31\/x=32\/x=33\/x=34\/x=35\/x=36\/x=37\/x=38\/x=39\/x=40\/x=41\/x=42\/x=43\/x=44\/x=45\/x=46\/x=47\/x=48\/x=49\/x=50\/x=51\/x=52\/x=53\/x=54\/x=55\/x=56\/x=57\/x=58\/x=59\/x=60\/x=61\/x=62\/x=63\/x=64:=oM
 clear h;rcases b with rfl|rfl|rfl|rfl|rfl|rfl|rfl|rfl|rfl|rfl|rfl|rfl|rfl|rfl|rfl|rfl|rfl|rfl|rfl|rfl|rfl|rfl|rfl|rfl|rfl|rfl|rfl|rfl|rfl|rfl|rfl|rfl|rfl|rfl|rfl|rfl|rfl|rfl|rfl|rfl|rfl|rfl|rfl|rfl|rfl|rfl|rfl|rfl|rfl|rfl|rfl|rfl|rfl|rfl|rfl|rfl|rfl|rfl|rfl|rfl|rfl|rfl|rfl|rfl|rfl;all_goals
  go_enter (qz func290),ntmps290;go_wp2;simp[bodyPost,results,results290,go_sem,RD,BM];first|exact ba|exact (ba).tr ((ba).mono sI)
def df(x:Nat)(b:x<256)(w:WR):Cq 290 #[vB (x:Int)] w fun e a=>e=.rt (RD (BM x))/\Bw w a:=by
 by_cases h:x<=64
 .exact cz x h w
 .exact qx x h b w
end
section
variable [aB]
attribute [local go_sem] wd
def mA{t:Nat}(d:BM x=some (t,l,g)){a b e:Nat}(h:BM x=some (a,b,e))(c:t<=S.length):a<=S.length:=by rw[d] at h;cases h;exact c
def At(h:dT W f F sv mv S X)(n:W.cA 1 0=some (.iface t v))(k:1<W.heap.size)(q:1<=S.length):
   Cq 291 #[pq f 0,vB 41] W fun e i=>Bw W i/\AN (.iface t v) (Wi (tw S 1) 32) e:=by
 have c:=fun w (g:Bw W w)=>AK (h.below g) 1 oM oM;have d:∀w,Bw W w->Cq 318 #[wd (tw S 1),.agg #[vU 32,vU 0,vU 0,vU 0]] w fun e i=>Bw w i/\AN (.iface t v) (Wi (tw S 1) 32) e:=fun w g=>by have:=oI (tw S 1) 32 (eO h _) dC ((g.cell (p:=(ad 1 0)) k).tr n) (aAy k g.size);rw[iU 32 dC] at this;exact this
 have p:=bq h.fc 14;have o:=aG h.fc;go_enter (qz func291),ntmps291;go_wp2_with fail;apply(c _ bR).mono;rintro e w1 ⟨rfl,b⟩;clear c p;go_wp2_with fail;apply(d _ b).mono;rintro e w2 ⟨j,a,l,rfl,m⟩;clear d;go_wp2;simp[bodyPost,results,results291,go_sem];exact⟨b.tr (j.mono b.size),a,l,rfl,m⟩
def Au(h:dT W f F sv mv S X)(n:W.cA 1 0=some (.iface t v))(k:1<W.heap.size)(q:1<=S.length):
   Cq 291 #[pq f 0,vB 42] W fun e i=>Bw W i/\AN (.iface t v) (Wi (tw S 1) 32) e:=by
 have c:=fun w (g:Bw W w)=>AK (h.below g) 1 oM oM;have d:∀w,Bw W w->Cq 318 #[wd (tw S 1),.agg #[vU 32,vU 0,vU 0,vU 0]] w fun e i=>Bw w i/\AN (.iface t v) (Wi (tw S 1) 32) e:=fun w g=>by have:=oI (tw S 1) 32 (eO h _) dC ((g.cell (p:=(ad 1 0)) k).tr n) (aAy k g.size);rw[iU 32 dC] at this;exact this
 have p:=bq h.fc 14;have o:=aG h.fc;go_enter (qz func291),ntmps291;go_wp2_with fail;apply(c _ bR).mono;rintro e w1 ⟨rfl,b⟩;clear c p;go_wp2_with fail;apply(d _ b).mono;rintro e w2 ⟨j,a,l,rfl,m⟩;clear d;go_wp2;simp[bodyPost,results,results291,go_sem];exact⟨b.tr (j.mono b.size),a,l,rfl,m⟩
def Aw(h:dT W f F sv mv S X)(n:W.cA 1 0=some (.iface t v))(k:1<W.heap.size)(q:1<=S.length):
   Cq 291 #[pq f 0,vB 43] W fun e i=>Bw W i/\AN (.iface t v) (Wi (tw S 1) 1) e:=by
 have c:=fun w (g:Bw W w)=>AK (h.below g) 1 oM oM;have d:∀w,Bw W w->Cq 318 #[wd (tw S 1),.agg #[vU 1,vU 0,vU 0,vU 0]] w fun e i=>Bw w i/\AN (.iface t v) (Wi (tw S 1) 1) e:=fun w g=>by have:=oI (tw S 1) 1 (eO h _) dC ((g.cell (p:=(ad 1 0)) k).tr n) (aAy k g.size);rw[iU 1 dC] at this;exact this
 have p:=bq h.fc 14;have o:=aG h.fc;go_enter (qz func291),ntmps291;go_wp2_with fail;apply(c _ bR).mono;rintro e w1 ⟨rfl,b⟩;clear c p;go_wp2_with fail;apply(d _ b).mono;rintro e w2 ⟨j,a,l,rfl,m⟩;clear d;go_wp2;simp[bodyPost,results,results291,go_sem];exact⟨b.tr (j.mono b.size),a,l,rfl,m⟩
def Ax(h:dT W f F sv mv S X)(x:W.cA 1 0=some (.iface t v))(r:1<W.heap.size)(y:2<=S.length):
  Cq 291 #[pq f 0,vB 50] W fun e p=>Bw W p/\AN (.iface t v) (Wi (tw S 1) (tw S 2)) e:=by
 have j:=fun w (g:Bw W w)=>AK (h.below g) 1 oM oM;have i:=fun w (g:Bw W w)=>AK (h.below g) 2 oM oM;have o:∀w,Bw W w->Cq 318 #[wd (tw S 1),wd (tw S 2)] w fun e p=>Bw w p/\AN (.iface t v) (Wi (tw S 1) (tw S 2)) e:=fun w g=>oI _ _ (eO h _) (eO h _) ((g.cell (p:=(ad 1 0)) r).tr x) (aAy r g.size);go_enter (qz func291),ntmps291;go_wp2_with fail;refine rq (fun V=>V.heap[f]?=ob (iE F sv mv) 225) h.fc fun b=>?_;refine t3 0 1 2 b ?_;refine tV 3 (fun _ q=>bq q 14) b ?_;refine t3 5 6 7 b ?_;refine tV 8 (fun _ q=>bq q 14) b ?_;refine rA 4 fun K k=>?_;go_simp;apply(j _ bR.drew).mono;rintro e w1 ⟨rfl,m⟩;go_wp2_with fail;refine k.out _ _ (bk m b) fun b=>?_;have c:Bw W w1:=bR.drew.tr m;refine rA 9 fun K k=>?_;go_simp;apply(i w1 c).mono;rintro e w2 ⟨rfl,l⟩;go_wp2_with fail;refine k.out _ _ (bk l b) fun b=>?_;have d:=c.tr (l.mono c.size);refine rA 10 fun K k=>?_;go_simp;apply(o w2 d).mono;rintro e w3 ⟨n,a,s,rfl,u⟩;go_wp2_with fail;refine k.out _ _ (bk n b) fun b=>?_;refine t4 11 12 13 14 b ?_;refine dn ?_;clear o;go_wp2;simp[bodyPost,results,results291,go_sem];exact⟨d.tr (n.mono d.size),a,s,rfl,u⟩
def Ay(h:dT W f F sv mv S X)(x:W.cA 1 0=some (.iface t v))(r:1<W.heap.size)(y:2<=S.length):
  Cq 291 #[pq f 0,vB 63] W fun e p=>Bw W p/\AN (.iface t v) (Wi (tw S 1) (tw S 2)) e:=by
 have j:=fun w (g:Bw W w)=>AK (h.below g) 1 oM oM;have i:=fun w (g:Bw W w)=>AK (h.below g) 2 oM oM;have o:∀w,Bw W w->Cq 318 #[wd (tw S 1),wd (tw S 2)] w fun e p=>Bw w p/\AN (.iface t v) (Wi (tw S 1) (tw S 2)) e:=fun w g=>oI _ _ (eO h _) (eO h _) ((g.cell (p:=(ad 1 0)) r).tr x) (aAy r g.size);go_enter (qz func291),ntmps291;go_wp2_with fail;refine rq (fun V=>V.heap[f]?=ob (iE F sv mv) 225) h.fc fun b=>?_;refine t3 0 1 2 b ?_;refine tV 3 (fun _ q=>bq q 14) b ?_;refine t3 5 6 7 b ?_;refine tV 8 (fun _ q=>bq q 14) b ?_;refine rA 4 fun K k=>?_;go_simp;apply(j _ bR.drew).mono;rintro e w1 ⟨rfl,m⟩;go_wp2_with fail;refine k.out _ _ (bk m b) fun b=>?_;have c:Bw W w1:=bR.drew.tr m;refine rA 9 fun K k=>?_;go_simp;apply(i w1 c).mono;rintro e w2 ⟨rfl,l⟩;go_wp2_with fail;refine k.out _ _ (bk l b) fun b=>?_;have d:=c.tr (l.mono c.size);refine rA 10 fun K k=>?_;go_simp;apply(o w2 d).mono;rintro e w3 ⟨n,a,s,rfl,u⟩;go_wp2_with fail;refine k.out _ _ (bk n b) fun b=>?_;refine t4 11 12 13 14 b ?_;refine dn ?_;clear o;go_wp2;simp[bodyPost,results,results291,go_sem];exact⟨d.tr (n.mono d.size),a,s,rfl,u⟩
def Az(h:dT W f F sv mv S X)(x:W.cA 1 0=some (.iface t v))(r:1<W.heap.size)(y:3<=S.length):
  Cq 291 #[pq f 0,vB 60] W fun e p=>Bw W p/\AN (.iface t v) (Wi (tw S 2) (tw S 3)) e:=by
 have j:=fun w (g:Bw W w)=>AK (h.below g) 2 oM oM;have i:=fun w (g:Bw W w)=>AK (h.below g) 3 oM oM;have o:∀w,Bw W w->Cq 318 #[wd (tw S 2),wd (tw S 3)] w fun e p=>Bw w p/\AN (.iface t v) (Wi (tw S 2) (tw S 3)) e:=fun w g=>oI _ _ (eO h _) (eO h _) ((g.cell (p:=(ad 1 0)) r).tr x) (aAy r g.size);go_enter (qz func291),ntmps291;go_wp2_with fail;refine rq (fun V=>V.heap[f]?=ob (iE F sv mv) 225) h.fc fun b=>?_;refine t3 0 1 2 b ?_;refine tV 3 (fun _ q=>bq q 14) b ?_;refine t3 5 6 7 b ?_;refine tV 8 (fun _ q=>bq q 14) b ?_;refine rA 4 fun K k=>?_;go_simp;apply(j _ bR.drew).mono;rintro e w1 ⟨rfl,m⟩;go_wp2_with fail;refine k.out _ _ (bk m b) fun b=>?_;have c:Bw W w1:=bR.drew.tr m;refine rA 9 fun K k=>?_;go_simp;apply(i w1 c).mono;rintro e w2 ⟨rfl,l⟩;go_wp2_with fail;refine k.out _ _ (bk l b) fun b=>?_;have d:=c.tr (l.mono c.size);refine rA 10 fun K k=>?_;go_simp;apply(o w2 d).mono;rintro e w3 ⟨n,a,s,rfl,u⟩;go_wp2_with fail;refine k.out _ _ (bk n b) fun b=>?_;refine t4 11 12 13 14 b ?_;refine dn ?_;clear o;go_wp2;simp[bodyPost,results,results291,go_sem];exact⟨d.tr (n.mono d.size),a,s,rfl,u⟩
def A4(h:dT W f F sv mv S X)(d:W.cA 1 0=some (.iface t v))(j:1<W.heap.size)(l:7<=S.length):
  Cq 291 #[pq f 0,vB 61] W fun e i=>Bw W i/\AN (.iface t v) (fun size=>Wi (tw S 4) (tw S 5) size/\Wi (tw S 6) (tw S 7) size) e:=by
 have b:=Gg h 4 oM oM d j;go_enter (qz func291),ntmps291;go_wp2_with fail;apply b.mono;rintro e w2 ⟨c,a,g,rfl,k⟩;clear b;go_wp2;simp[bodyPost,results,results291,go_sem];exact⟨c,a,g,rfl,k⟩
def A5(h:dT W f F sv mv S X)(d:W.cA 1 0=some (.iface t v))(j:1<W.heap.size)(l:6<=S.length):
  Cq 291 #[pq f 0,vB 62] W fun e i=>Bw W i/\AN (.iface t v) (fun size=>Wi (tw S 3) (tw S 4) size/\Wi (tw S 5) (tw S 6) size) e:=by
 have b:=Gg h 3 oM oM d j;go_enter (qz func291),ntmps291;go_wp2_with fail;apply b.mono;rintro e w2 ⟨c,a,g,rfl,k⟩;clear b;go_wp2;simp[bodyPost,results,results291,go_sem];exact⟨c,a,g,rfl,k⟩
def A7(x:Nat)(l:x≠41/\x≠42/\x≠43/\x≠50/\x≠63/\x≠60/\x≠61/\x≠62):
  Cq 291 #[pq f 0,vB (x:Int)] W fun e c=>e=.rt (.tuple #[vI 0,.nilIface])/\c=W:=by
 have k:¬(x:Int)=41:=oM
 have d:¬(x:Int)=42:=oM
 have b:¬(x:Int)=43:=oM
 have h:¬(x:Int)=50:=oM
 have a:¬(x:Int)=63:=oM
 have j:¬(x:Int)=60:=oM
 have g:¬(x:Int)=61:=oM
 have i:¬(x:Int)=62:=oM
 clear l;go_enter (qz func291),ntmps291;go_wp2;simp[bodyPost,results,results291,go_sem]
def AN.imp{Q b:Nat->Prop}{e:Ending}(h:AN E Q e)(f:∀n,Q n->b n):AN E b e:=
 let⟨a,c,i,g⟩:=h
 ⟨a,c,i,g.imp (fun⟨h3,n,h4,j,d⟩=>⟨h3,n,h4,j,f n d⟩) id⟩
def dg(h:dT W f F sv mv S X)(i:W.cA 1 0=some (.iface t v))(m:1<W.heap.size){k:Nat}(o:BM x=some (k,l,g))(j:k<=S.length):
  Cq 291 #[pq f 0,vB (x:Int)] W fun e d=>Bw W d/\AN (.iface t v) (Tz x S) e:=by
 by_cases a:x=41\/x=42\/x=43\/x=50\/x=63\/x=60\/x=61\/x=62
 .rcases a with rfl|rfl|rfl|rfl|rfl|rfl|rfl|rfl
  .exact(At h i m (mA (S:=S) o rfl j)).mono fun e d ⟨c,a⟩=>⟨c,a.imp fun n b=>⟨fun _=>b.resolve_left dC,sI,sI,sI,sI,sI⟩⟩
  .exact(Au h i m (aAw (by decide:1<=2) (mA (S:=S) o rfl j))).mono fun e d ⟨c,a⟩=>⟨c,a.imp fun n b=>⟨fun _=>b.resolve_left dC,sI,sI,sI,sI,sI⟩⟩
  .exact(Aw h i m (aAw (by decide:1<=2) (mA (S:=S) o rfl j))).mono fun e d ⟨c,a⟩=>⟨c,a.imp fun n b=>⟨sI,fun _=>b.resolve_left dC,sI,sI,sI,sI⟩⟩
  .exact(Ax h i m (aAw (by decide:2<=3) (mA (S:=S) o rfl j))).mono fun e d ⟨c,a⟩=>⟨c,a.imp fun n b=>⟨sI,sI,fun _=>b,sI,sI,sI⟩⟩
  .exact(Ay h i m (mA (S:=S) o rfl j)).mono fun e d ⟨c,a⟩=>⟨c,a.imp fun n b=>⟨sI,sI,fun _=>b,sI,sI,sI⟩⟩
  .exact(Az h i m (mA (S:=S) o rfl j)).mono fun e d ⟨c,a⟩=>⟨c,a.imp fun n b=>⟨sI,sI,sI,fun _=>b,sI,sI⟩⟩
  .exact(A4 h i m (mA (S:=S) o rfl j)).mono fun e d ⟨c,a⟩=>⟨c,a.imp fun n b=>⟨sI,sI,sI,sI,fun _=>b,sI⟩⟩
  .exact(A5 h i m (mA (S:=S) o rfl j)).mono fun e d ⟨c,a⟩=>⟨c,a.imp fun n b=>⟨sI,sI,sI,sI,sI,fun _=>b⟩⟩
 .apply(A7 x oM).mono;rintro e d ⟨rfl,rfl⟩;exact⟨Below.refl _ _,_,_,rfl,.inl ⟨rfl,0,rfl,dC,oM,oM,oM,oM,oM,oM⟩⟩
end
end Go.Mark
