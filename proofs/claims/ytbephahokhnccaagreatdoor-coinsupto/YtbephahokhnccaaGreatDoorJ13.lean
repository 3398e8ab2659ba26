import Derived.Test.YtbephahokhnccaaGreatDoorJ12
set_option linter.all false
set_option maxRecDepth 100000
set_option maxHeartbeats 8000000
namespace Go.Mark
open Go.RowKit Go.Proofs Go.Proofs.Tryz
variable{K:Kc}{S T:K4}{X J2:K3}{f x b n g a c l:Nat}{o:Oper}{s:Operand}{P:K5}{mv sv:SV}{t u:Fh}{v E y z:vZ}{W W' w w':WR}{F:fC}
section
variable [aB]
def fL(n:Nat):Nat:=(n+31) / 32
def JJ(w:Nat):Nat:=3*w+w*w / 512
def OH(n:Nat)(a:n<1099511627776)(w:WR):Cq 325 #[vI (n:Int)] w fun e w'=>e=.rt (vI (fL n:Int))/\w'=w:=by
 have w1:iw ((n:Int)+32)=(n:Int)+32:=iW;have w2:iw ((n:Int)+32 - 1)=(n:Int)+32 - 1:=iW;have d1:((n:Int)+32 - 1).tdiv 32=(fL n:Int):=by rw[aBk oM];unfold fL;omega
 have w3:iw (fL n:Int)=(fL n:Int):=IntWalk.i64_in _ ⟨by unfold fL;omega,by unfold fL;omega⟩;go_enter (qz func325),ntmps325;go_wp2;go_ret;exact⟨rfl,rfl⟩
def cg(n:Nat)(c:n<1073741824)(w:WR):Cq 324 #[vI (n:Int)] w fun e w'=>e=.rt (vI (JJ n:Int))/\w'=w:=by
 have b:n*n<1073741824*1073741824:=aBJ c c;obtain⟨p,a⟩:∃p,p=n*n:=⟨_,rfl⟩;obtain⟨q,d⟩:∃q,q=p / 512:=⟨_,rfl⟩;have f:(n:Int)*(n:Int)=(p:Int):=by rw[a];simp
 have w1:iw (3*(n:Int))=3*(n:Int):=iW;have w2:iw (p:Int)=(p:Int):=iW;have d1:(p:Int).tdiv 512=(q:Int):=by rw[aBk oM];omega
 have w3:iw (q:Int)=(q:Int):=iW;have w4:IntKind.i64.wrap (3*(n:Int)+(q:Int))=(JJ n:Int):=by rw[IntWalk.i64_in _ ⟨oM,oM⟩];unfold JJ;rw[<-a];omega
 clear a d b;go_enter (qz func324),ntmps324;go_wp2;go_ret;exact⟨rfl,rfl⟩
def xn(n size:Nat):Nat:=if size<=n then 0 else JJ (fL size) - JJ (fL n)
def JK(h:a<=b):3*b+JJ a<=JJ b+3*a:=by unfold JJ;have:=aCG h h;omega
def Ga(a:yj)(c n size:Nat)(r:n<1073741824)(q:size<8589934592)(w:WR):Cq 293 #[.sl a n c,vI (size:Int)] w fun e w'=>e=.rt (vI (xn n size:Int))/\w'=w:=by
 unfold xn;by_cases h:size<=n
 .rw[if_pos h];have m:(size:Int)<=(n:Int):=oM
  go_enter (qz func293),ntmps293;go_wp2;go_ret;exact⟨rfl,rfl⟩
 .rw[if_neg h];have m:¬(size:Int)<=(n:Int):=oM
  have b:fL size<1073741824:=by unfold fL;omega
  have k:fL n<1073741824:=by unfold fL;omega
  have i:=OH size oM w;have d:=cg (fL size) b w;have f:=OH n oM w;have g:=cg (fL n) k w;have o:=JK (a:=fL n) (b:=fL size) (by unfold fL;omega);have j:fL n<=fL size:=by unfold fL;omega
  have l:JJ (fL size)<9000000000000000:=by have:=aBJ b b;unfold JJ;omega
  have p:IntKind.i64.wrap ((JJ (fL size):Int) - (JJ (fL n):Int))=((JJ (fL size) - JJ (fL n):Nat):Int):=by rw[IntWalk.i64_in _ ⟨oM,oM⟩];omega
  clear b k o j l;go_enter (qz func293),ntmps293;go_wp2_with fail;apply i.mono;rintro e _ ⟨rfl,rfl⟩;go_wp2_with fail;apply d.mono;rintro e _ ⟨rfl,rfl⟩;go_wp2_with fail;apply f.mono;rintro e _ ⟨rfl,rfl⟩;go_wp2_with fail;apply g.mono;rintro e _ ⟨rfl,rfl⟩;go_wp2;go_ret;exact⟨rfl,rfl⟩
def Gc{e:Nat}(h:W.ownsRow b e 1 (.slice mv.a mv.n mv.c) X.length X):mv.n=X.length:=by
 have⟨a,n,c⟩:=mv;rcases h.2 with⟨d,i⟩| ⟨g,cap,f,d,_⟩
 .cases d;exact i.symm
 .cases d;rfl
def VG{a:Act}{K:Fi}{Q:Fg}{x:Operand}(b:o.op=.call {callee:=.builtin .append,args:=#[s,x],argTypes:=#[t,u]})(d:a.eval s=v)(e:a.eval x=y)(c:(Builtin.append_ #[t,u] o.type #[v,y]).run P w=.ok z w')(h:K (a.put o.dst z) w'):o.wp P a w K Q:=by unfold Oper.wp execOp;simp only[b,resolve,invoke,builtin,Sem.run_bind,Sem.run_pure,Result.andThen_ok,List.map_toArray,aBl,aCC,d,e,c];exact h
def BL{c:DQ}{b:List Oper}{a:Act}{Q:Fg}{x:Operand}(d:o.guard=none)(e:o.op=.call {callee:=.builtin .append,args:=#[s,x],argTypes:=#[t,u]})(f:a.eval s=v)(j:a.eval x=y)(g:(Builtin.append_ #[t,u] o.type #[v,y]).run P w=.ok z w')(h:wpList P c Q b (a.put o.dst z) w'):wpList P c Q (o::b) a w:=
 wpList_plain d fun _ i=>VG e f j g (i _ _ h)
def dT.mn(h:dT W f F sv mv S X):mv.n=X.length:=Gc h.me
def dT.below(h:dT W f F sv mv S X)(a:Bw W W'):dT W' f F sv mv S X:=h.px (Px.aF a []) dC
def fU{c l:Ff}(h:W.heap[f]?=ob c 225)(i:W'.heap[f]?=ob l 225){d:K4}(e:aU [f] d W W')(j:∀t∈d,t∈T/\t≠225)(a:225∈T)(b:aB.b1<=f):Px T W W':=
 e.px (fun k g _=>by
  obtain rfl:k=f:=by simpa using g
  rw[h,i];exact⟨a,b,rfl⟩) j
def dT.cells(h:dT W f F sv mv S X){F':fC}(d:W'.heap[f]?=ob (iE F' sv mv) 225)(a:Px [225] W W')(c:F'.mark=F.mark)(b:F'.data=F.data):dT W' f F' sv mv S X:=
 ⟨d,h.lo,yY h.st a dC,h.sm,jX h.me a dC,h.mb,c▸h.ma.px a dC,b▸h.da.eT a⟩
def Gd(h:dT W f F sv mv S X)(size:Nat)(N:size<1099511627776)(Q:X.length<1073741824)(H:fL size*32<1073741824):
   Cq 294 #[pq f 15,vI (size:Int)] W fun e w'=>e=rU/\∃b z,dT w' f F sv b S z/\z.length=max X.length (fL size*32)/\Px [225,5] W w':=by
 have i:=US h.mn;have O:iw ((fL size:Int)*32)=(fL size:Int)*32:=iW;have C:iw ((fL size:Int)*32 - (mv.n:Int))=(fL size:Int)*32 - (mv.n:Int):=by have:=i.out;exact iW
 have M:=aG h.fc;go_enter (qz func294),ntmps294;go_wp2_with fail;refine rq (fun V=>V.heap[f]?=ob (iE F sv mv) 225) h.fc fun n=>?_;refine t3 0 3 4 n ?_;refine tV 5 (fun _ E=>bq E 15) n ?_;refine t1 6 n ?_;refine rA 1 fun K I=>?_;go_simp;apply(OH size N _).mono;rintro e R ⟨rfl,rfl⟩;go_wp2_with fail;refine I.out _ _ n fun n=>?_;refine t3 2 7 8 n ?_;refine dn ?_;have m:Bw W W.drew:=bR.drew;have l:=h.below m;by_cases A:(fL size:Int)*32 - (mv.n:Int)>0
 .obtain⟨k,u⟩:∃k:Nat,(fL size:Int)*32 - (mv.n:Int)=(k:Int):=⟨fL size*32 - mv.n,oM⟩;rw[u];rw[u] at A;have w:(0:Int)<(k:Int):=oM
  have⟨b,w',r,j,p⟩:=VF (ty:=223) l.me k oM (by have:=i.out;omega) l.st.low;have c:=p.row l.fc;have T:=bq l.fc 15;have P:=bq c 15;have J:=aQ c 15;have G:=aG c;have v:=US u;clear O C u A;go_wp2_with (at_builtin;go_loud (refine BL rI rI rI rI r ?_))
  go_wp2;simp[bodyPost,results,results294,go_sem];have o:=aO (i:=15) (v:=.sl b.a b.n b.c) c;have d:=fU (T:=[225,5]) c o (aU.sC w' f 15 _) (fun t a=>by cases a) dC h.lo;have y:Px [225,5] W _:=(Px.aF m _).tr ((p.mono (fun t a=>by simp at a;simp[a])).tr d);have B:X.length+k=fL size*32:=by have:=i.out;have:=v.out;omega
  refine⟨b,X++List.replicate k (vB 0),⟨o,h.lo,yY l.st ((p.mono (T':=[225,5]) (fun t a=>by simp at a;simp[a])).tr d) dC,h.sm,?_,fun x s=>?_,l.ma.px ((p.mono (T':=[225,5]) (fun t a=>by simp at a;simp[a])).tr d) dC,l.da.eT ((p.mono (T':=[225,5]) (fun t a=>by simp at a;simp[a])).tr d)⟩,by simp;omega,y⟩
  · have e:(X++List.replicate k (Value.int .u8 0)).length=X.length+k:=sI
    rw[e];exact dM j fun g D=>heap_setCell_other w' ⟨f,15,none⟩ g _ (fun e=>by have⟨L,q⟩:=cL j g D;exact dP q c dC e)
  · rcases aAL.1 s with s|s
    · exact h.mb x s
    · exact⟨0,dC,aCA s⟩
 .have w:¬(0:Int)<(fL size:Int)*32 - (mv.n:Int):=oM
  go_wp2;simp[bodyPost,results,results294,go_sem];exact⟨mv,X,l,by have:=i.out;omega,Px.aF m _⟩
def dT.Lf{a:K4}(h:dT W f F sv mv S X){sv':SV}(d:W'.heap[f]?=ob (iE F sv' mv) 225)(e:FO W' sv' a)(b:Px [225,41] W W')(c:∀x∈a,x<M):dT W' f F sv' mv a X:=
 ⟨d,h.lo,e,c,jX h.me b dC,h.mb,h.ma.px b dC,h.da.eT b⟩
def yZ(h:dT W f F sv mv S X)(x:Nat)(k:x<M)(j:S.length<99999):
  Cq 300 #[pq f 14,wd x] W fun e w'=>e=rU/\(∃a,dT w' f F a mv (S++[x]) X)/\Px [225,41] W w':=by
 apply(Ah h.st h.fc (o:=14) rfl dC x j).mono;rintro e w' ⟨a,rfl,d,i,h3⟩;have c:Px [225,41] W w':=fU h.fc d h3 (fun t g=>by simp at g;simp[g]) dC h.lo;exact⟨rfl,⟨a,h.Lf d i c (fun y b=>by
  rcases aAL.1 b with b|b
  .exact h.sm y b
  .rw[aAB.1 b];exact k)⟩,c⟩
def Gf(h:dT W f F sv mv (S++[x]) X):
  Cq 296 #[pq f 14] W fun e w'=>e=.rt (wd x)/\(∃a,dT w' f F a mv S X)/\Px [225] W w':=by
 apply(QO h.st h.fc (o:=14) rfl dC).mono;rintro e w' ⟨rfl,d,g,h3⟩;have c:Px [225] W w':=fU h.fc d h3 (fun t b=>by cases b) dC h.lo;exact⟨rfl,⟨_,h.Lf (sv':=⟨sv.a,S.length,sv.c⟩) d g (c.mono (fun t b=>by simp at b;simp[b])) (fun y i=>h.sm y (List.mem_append_left _ i))⟩,c⟩
def Qa(h:dT W f F sv mv S X)(i:Nat)(c:0<i)(d:i<=S.length):
  Cq 319 #[.sl sv.a sv.n sv.c,vI (i:Int)] W fun e w'=>∃x,S[S.length - i]?=some x/\x<M/\e=.rt (wd x)/\Bw W w':=by
 have a:S[S.length - i]?=some (S[S.length - i]'oM):=aAG oM;apply(xg h.st i c a oM).mono;rintro e w' ⟨rfl,b⟩;exact⟨_,a,h.sm _ (aBf _),rfl,b⟩
def To(W:WR)(K:Kc)(s:St)(n:Nat)(w':WR):Prop:=∃a,Mi w' K a/\Ex n s a/\Px LT W w'/\a.N=s.N/\a.xs=s.xs/\a.back=s.back
def xo(W:WR)(ms c:Nat):jI W ⟨0,0,⟨#[]⟩,⟨none,0,0⟩,ms,fun _=>0⟩ c:=
 ⟨⟨aBq 0,by show(0:Int)<=_;omega⟩,⟨[],aBa _,fun _ h=>absurd rfl h⟩,.inl rfl,by show 0<_;decide,by show 0<_;decide⟩
def sO{A:AM}(h:mC A c)(i:Int)(f:Ir i)(x:Option (Nat×Av)):mC (up A i x) (c+1):=by
 have⟨d,g,b,h3⟩:=h;refine⟨i::d,by simp;omega,fun k a=>?_,fun k a=>(aAx.1 a).elim (fun e=>e▸f) (h3 k)⟩;unfold up at a;split at a
 .rename_i e;simp[e]
 .exact aAR _ (b k a)
def Mi.up{s:St}(h:Mi W K s){i:Int}(t:Ir i){v v':Av}{r:K3}(e:Tc s.A i b v s.J r)(q:LF W' K.l K.m K.d s.cr (up s.A i (some (b,v'))) s.D J2)(g:Px LT W W')(w:jI W' v s.c->jI W' v' (s.c+2))(d:mI 2 s.A s.D s.J (Go.Mark.up s.A i (some (b,v'))) s.D J2){T':Nat}(n:v'.cn+K.T=v.cn+T')(m:T'<M)(l:K.cm->v'.code=v.code):∃a,Mi W' {K with T:=T'} a/\Ex 2 s a/\a.A=Go.Mark.up s.A i (some (b,v'))/\a.D=s.D/\a.J=J2/\a.N=s.N/\a.xs=s.xs/\a.back=s.back:=by
 have k:jI W' v s.c:=by
  rcases e with⟨p,_⟩| ⟨_,⟨ms,rfl⟩,_⟩
  .exact(h.av i b v p).px g dC lR
  .exact xo _ _ _
 refine⟨{s with A:=Go.Mark.up s.A i (some (b,v')),J:=J2,c:=s.c+2},h.qy q g (fun j o u f=>?_) ((sO h.sup i t _).mono oM) ?_ ⟨h.bc.1,by have:=h.bc.2;show s.cr*30000<=((s.c+2:Nat):Int);omega⟩ oM (h.tq.up e n m l),⟨d,⟨by show s.c<=s.c+2;omega,aAz _⟩,aAz _,sI,rfl,aBq _⟩,rfl,rfl,rfl,rfl,rfl,rfl⟩
 .unfold Go.Mark.up at f;split at f
  .cases f;exact w k
  .exact(h.av j o u f).px g dC oM
 .have:=d.len.1;have:=h.bj;omega
def Mi.to{s:St}{X:AM}(h:∃a,Mi W' K a/\Ex 2 s a/\a.A=X/\a.D=s.D/\a.J=J2/\a.N=s.N/\a.xs=s.xs/\a.back=s.back)(b:Px LT W W')(f:2<=n):To W K s n W':=
 let⟨a,d,c,_,_,_,h3,h4,e⟩:=h
 ⟨a,d,c.mono f,b,h3,h4,e⟩
end
section
variable [aB]
attribute [local go_sem] wd
def As(a n:Nat)(J:a<M)(D:n<M)(C:W.cA 1 0=some E)(A:1<W.heap.size):
   Cq 318 #[wd a,wd n] W fun e w'=>Bw W w'/\((∃size:Nat,size<=4294967296/\(n=0\/a+n<=size)/\e=.rt (.tuple #[vI size,.nilIface]))\/e=.rt (.tuple #[vI 0,E])):=by
 have B:=wP n D;by_cases d:n=0
 .rw[decide_eq_true d] at B;have m:=US d;clear d;go_enter (qz func318),ntmps318;go_wp2;simp[bodyPost,results,results318,go_sem];exact⟨(ba).tr ((ba).mono sI),.inl ⟨0,dC,.inl m.out,rfl⟩⟩
 .rw[decide_eq_false d] at B;have i:=fun w=>sum a n J D w;have o:Bw W ((W.nc (wq a) 41).nc (wq n) 41):=(ba).tr ((ba).mono sI);have m:=US d;clear d;go_enter (qz func318),ntmps318;go_wp2_with fail;apply(i _).mono;rintro e w1 ⟨rfl,y⟩;clear i;have F:(a+n) % M<M:=aBE _ dC;have h:=less 4294967296 ((a+n) % M) dC F;rw[iU 4294967296 dC] at h;have f:=o.tr (y.mono o.size);obtain⟨c,z⟩:∃c,c=(a+n) / M:=⟨_,rfl⟩;obtain⟨s,t⟩:∃s,s=(a+n) % M:=⟨_,rfl⟩;have x:Shut (a+n=M*c+s):=by rw[z,t];exact(aDj _ _).symm
  rw[<-t] at h F;rw[<-t,<-z];clear z t;by_cases u:c=0
  · subst u
    go_wp2_with fail;apply(h _).mono;rintro e w2 ⟨rfl,q⟩;clear h;have g:Bw w1 (w1.nc (wq s) 41):=ba;have b:=f.tr ((g.tr (q.mono g.size)).mono f.size);have j:=(b.cell (p:=(ad 1 0)) A).tr C;have r:=(q.block _ sI).tr (aM w1 (.ce (wq s) 41));have I:=aG r;by_cases k:4294967296<s
    · have G:decide (4294967296<s)=true:=by simpa using k
      go_wp2_with fail;refine rq (fun V=>V.cA 1 0=some E) j fun p=>?_;refine tV 0 (fun _ v=>v) p ?_;refine t2 1 2 p ?_;refine dn ?_;go_wp2;simp[bodyPost,results,results318,go_sem];exact b.drew
    · have G:decide (4294967296<s)=false:=by simpa using k
      have l:Shut (s<=4294967296):=by show s<=4294967296;omega
      have H:aI s 0=(s:Int):=(eL s oM).1;have N:=bq r 0;have K:iw (s:Int)=s:=iW;clear k;go_wp2;simp[bodyPost,results,results318,go_sem];exact⟨b,.inl ⟨s,l.out,.inr (by have:=x.out;omega),rfl⟩⟩
  · have L:¬(c:Int)=0:=oM
    have g:Bw w1 (w1.nc (wq s) 41):=ba;have b:=f.tr (g.mono f.size);have j:=(b.cell (p:=(ad 1 0)) A).tr C;go_wp2_with fail;refine rq (fun V=>V.cA 1 0=some E) j fun p=>?_;refine tV 0 (fun _ v=>v) p ?_;refine t2 1 2 p ?_;refine dn ?_;go_wp2;simp[bodyPost,results,results318,go_sem];exact b.drew
def tw(S:K4)(i:Nat):Nat:=S[S.length - i]?.getD 0
def Wi(a n size:Nat):Prop:=n=0\/a+n<=size
def Wi.mono{z b:Nat}(h:Wi a n z)(c:z<=b):Wi a n b:=h.imp id fun h=>aAw h c
def Tz(x:Nat)(S:K4)(size:Nat):Prop:=
 (x=41\/x=42->tw S 1+32<=size)/\(x=43->tw S 1+1<=size)/\(x=50\/x=63->Wi (tw S 1) (tw S 2) size)/\(x=60->Wi (tw S 2) (tw S 3) size)/\(x=61->Wi (tw S 4) (tw S 5) size/\Wi (tw S 6) (tw S 7) size)/\(x=62->Wi (tw S 3) (tw S 4) size/\Wi (tw S 5) (tw S 6) size)
def eO(h:dT W f F sv mv S X)(i:Nat):tw S i<M:=by
 unfold tw;cases a:S[S.length - i]? with
 |none=>show(0:Nat)<M;decide
 |some x=>exact h.sm x (aBj a)
def AK(h:dT W f F sv mv S X)(i:Nat)(b:0<i)(d:i<=S.length):
  Cq 319 #[.sl sv.a sv.n sv.c,vI (i:Int)] W fun e w'=>e=.rt (wd (tw S i))/\Bw W w':=by
 apply(Qa h i b d).mono;rintro e w' ⟨x,c,_,rfl,a⟩;exact⟨by unfold tw;rw[c];rfl,a⟩
def AN(E:vZ)(Q:Nat->Prop)(e:Ending):Prop:=∃a b,e=.returned (.tuple #[.int .i64 a,b])/\((b=.nilIface/\∃size:Nat,a=size/\size<=4294967296/\Q size)\/b=E)
def oI(a n:Nat)(f:a<M)(h:n<M)(d:W.cA 1 0=some E)(b:1<W.heap.size):
  Cq 318 #[wd a,wd n] W fun e w'=>Bw W w'/\AN E (Wi a n) e:=by
 apply(As a n f h d b).mono;rintro e w' ⟨c,⟨size,b,g,rfl⟩|rfl⟩
 .exact⟨c,_,_,rfl,.inl ⟨rfl,size,rfl,b,g⟩⟩
 .exact⟨c,_,_,rfl,.inr rfl⟩
def Gg(h:dT W f F sv mv S X)(i:Nat)(R:0<i)(hn:i+3<=S.length)(O:W.cell? ⟨1,0,none⟩=some (.iface t v))(H:1<W.heap.size):
   Calls zQ.prog 320 #[pq f 0,.int .i64 (i:Int)] W fun e w'=>Below W.heap.size W w'/\AN (.iface t v) (fun size=>Wi (tw S i) (tw S (i+1)) size/\Wi (tw S (i+2)) (tw S (i+3)) size) e:=by
 have hS:S.length<100000:=h.st.num;have T:IntKind.i64.wrap ((i:Int)+1)=(i:Int)+1:=IntWalk.i64_in _ ⟨oM,oM⟩;have Q:IntKind.i64.wrap ((i:Int)+2)=(i:Int)+2:=IntWalk.i64_in _ ⟨oM,oM⟩;have P:IntKind.i64.wrap ((i:Int)+3)=(i:Int)+3:=IntWalk.i64_in _ ⟨oM,oM⟩;have n:∀w,Below W.heap.size W w->Calls zQ.prog 319 #[.slice sv.a sv.n sv.c,.int .i64 ((i:Int)+1)] w fun e w'=>e=.returned (wd (tw S (i+1)))/\Below w.heap.size w w':=fun w c=>AK (h.below c) (i+1) oM oM;have l:∀w,Below W.heap.size W w->Calls zQ.prog 319 #[.slice sv.a sv.n sv.c,.int .i64 ((i:Int)+2)] w fun e w'=>e=.returned (wd (tw S (i+2)))/\Below w.heap.size w w':=fun w c=>AK (h.below c) (i+2) oM oM;have k:∀w,Below W.heap.size W w->Calls zQ.prog 319 #[.slice sv.a sv.n sv.c,.int .i64 ((i:Int)+3)] w fun e w'=>e=.returned (wd (tw S (i+3)))/\Below w.heap.size w w':=fun w c=>AK (h.below c) (i+3) oM oM;have o:∀w,Below W.heap.size W w->Calls zQ.prog 318 #[wd (tw S i),wd (tw S (i+1))] w fun e w'=>Below w.heap.size w w'/\AN (.iface t v) (Wi (tw S i) (tw S (i+1))) e:=fun w c=>oI _ _ (eO h _) (eO h _) ((c.cell (p:=⟨1,0,none⟩) H).trans O) (Nat.lt_of_lt_of_le H c.size);have m:∀w,Below W.heap.size W w->Calls zQ.prog 318 #[wd (tw S (i+2)),wd (tw S (i+3))] w fun e w'=>Below w.heap.size w w'/\AN (.iface t v) (Wi (tw S (i+2)) (tw S (i+3))) e:=fun w c=>oI _ _ (eO h _) (eO h _) ((c.cell (p:=⟨1,0,none⟩) H).trans O) (Nat.lt_of_lt_of_le H c.size);go_enter (qz func320),Tryz.ntmps320;go_wp2_with fail
 refine rq (fun V=>V.heap[f]?=ob (iE F sv mv) 225) h.fc (fun a=>?_);refine t3 0 1 2 a ?_;refine tV 3 (fun _ u=>bq u 14) a ?_;refine t4 4 6 7 8 a ?_;refine tV 9 (fun _ u=>bq u 14) a ?_;refine t2 10 11 a ?_;refine rA 5 (fun K b=>?_);go_simp;refine(AK (h.below (Below.refl _ _).drew) i R oM).mono ?_;rintro e w1 ⟨rfl,E⟩;go_wp2_with fail
 refine b.out _ _ (bk E a) (fun a=>?_);clear b K;have r:Below W.heap.size W w1:=(Below.refl _ _).drew.trans E;refine rA 12 (fun K b=>?_);go_simp;refine(n w1 r).mono ?_;rintro e w2 ⟨rfl,C⟩;go_wp2_with fail
 refine b.out _ _ (bk C a) (fun a=>?_);clear b K;have x:=r.trans (C.mono r.size);refine rA 13 (fun K b=>?_);go_simp;refine(o w2 x).mono ?_;rintro e w3 ⟨G,a1,v1,rfl,M⟩;go_wp2_with fail
 refine b.out _ _ (bk G a) (fun a=>?_);clear b K;refine t5 14 15 16 17 18 a ?_;refine dn ?_;have d:=x.trans (G.mono x.size);clear n o;rcases M with⟨rfl,J,rfl,z,g⟩|rfl
 .go_wp2_with fail
  refine rq (fun V=>V.heap[f]?=ob (iE F sv mv) 225) (h.below d).fc (fun a=>?_);refine t3 0 1 2 a ?_;refine tV 3 (fun _ u=>bq u 14) a ?_;refine t5 4 5 7 8 9 a ?_;refine tV 10 (fun _ u=>bq u 14) a ?_;refine t2 11 12 a ?_;refine rA 6 (fun K b=>?_);go_simp;refine(l _ d.drew).mono ?_;rintro e w4 ⟨rfl,D⟩;go_wp2_with fail
  refine b.out _ _ (bk D a) (fun a=>?_);clear b K;have p:=d.drew.trans (D.mono d.size);refine rA 13 (fun K b=>?_);go_simp;refine(k _ p).mono ?_;rintro e Y ⟨rfl,A⟩;go_wp2_with fail
  refine b.out _ _ (bk A a) (fun a=>?_);clear b K;have s:=p.trans (A.mono p.size);refine rA 14 (fun K b=>?_);go_simp;refine(m _ s).mono ?_;rintro e U ⟨y,a2,Z,rfl,L⟩;go_wp2_with fail
  refine b.out _ _ (bk y a) (fun a=>?_);clear b K;refine t5 15 16 17 18 19 a ?_;refine dn ?_;have N:=s.trans (y.mono s.size);clear l k m T Q P;go_wp2;all_goals
   simp[bodyPost,results,Tryz.results320,go_sem];refine⟨N,_,_,rfl,?_⟩;rcases L with⟨rfl,I,rfl,B,j⟩|rfl
   .first|exact .inl ⟨rfl,I,rfl,B,g.mono oM,j⟩|exact .inl ⟨rfl,J,rfl,z,g,j.mono oM⟩|(rcases Nat.le_total J I with q|q;exact .inl ⟨rfl,I,by exact oM,B,g.mono q,j⟩;exact .inl ⟨rfl,J,by exact oM,z,g,j.mono q⟩)
   .exact .inr rfl
 .go_wp2;simp[bodyPost,results,Tryz.results320,go_sem];exact⟨d,_,_,rfl,.inr rfl⟩
def cu(A B:K4)(y x:Nat):lZ (fw (A++y::B)) (A.length*4) (w4 x)=fw (A++x::B):=by rw[uH,uH,<-OB A];show lZ (fw A++(w4 y++fw B)) _ _=fw A++(w4 x++fw B);rw[<-aBL,<-aBL];exact DC _ _ _ _ rfl
def cx{i d:K3}(h:W.grownBy W' (some g))(f:W.ownsRow aB.b1 41 4 (.slice (some ⟨g,0,none⟩) n c) n i)(e:W'.ownsRow aB.b1 41 4 (.slice (some ⟨g,0,none⟩) n c) n d):Px [41] W W':=
 (aU.grown (v:=.sl (some (ad g 0)) n c) h aB.Ad f e).px (fun k b=>by cases b) (fun t a=>by simp at a;simp[a])
def Gh{U:K4}{y:Nat}(j:FO W sv (T++y::(U++[x]))):
    Cq 338 #[.sl sv.a sv.n sv.c,vI ((U.length+2:Nat):Int)] W fun e w'=>e=rU/\FO w' sv (T++x::(U++[y]))/\Px [41] W w':=by
 obtain⟨p,t⟩:∃p,p=T.length:=⟨_,rfl⟩;obtain⟨q,z⟩:∃q,q=T.length+1+U.length:=⟨_,rfl⟩;have⟨g,k,F,c0,O,c2,c3⟩:=j.cells (j:=p) (x:=y) (by rw[t];simp);have⟨b,i,_,c4,P,c6,M⟩:=j.cells (j:=q) (x:=x) (by rw[z,show T.length+1+U.length=T.length+(1+U.length) by omega,aBn oM];simp[aDi 1]);have u:b=g:=by rw[k] at i;cases i;rfl
 subst u;have o:=j.n;have v:=j.num;have⟨X,f,D⟩:=sv;simp only at k o⊢;subst k;have⟨E,a⟩:=cL j.own b rfl;have n:(T++y::(U++[x])).length=q+1:=by simp;omega
 have r:f=q+1:=o.tr n;have G:(p:Int)<(f:Int):=oM
 have Q:(q:Int)<(f:Int):=oM
 have Y:(f:Int) - 1=(q:Int):=oM
 have N:(f:Int) - ((U.length:Int)+2)=(p:Int):=oM
 have Z:iw (q:Int)=(q:Int):=iW;have e4:iw (p:Int)=(p:Int):=iW;have H:=aQ a (p*4);have L:=aQ a (q*4);have I:=aQ a (p*4+1);have k1:=aQ a (q*4+1);have R:=aQ a (p*4+2);have S:=aQ a (q*4+2);have f3:=aQ a (p*4+3);have J:=aQ a (q*4+3);have h:FO (((((((((W.sA b (q*4) (vL y 0)).sA b (q*4+1) (vL y 1)).sA b (q*4+2) (vL y 2)).sA b (q*4+3) (vL y 3)).sA b (p*4) (vL x 0)).sA b (p*4+1) (vL x 1)).sA b (p*4+2) (vL x 2)).sA b (p*4+3) (vL x 3)).drew) ⟨some ⟨b,0,none⟩,f,D⟩ (T++x::(U++[y]))/\Px [41] W (((((((((W.sA b (q*4) (vL y 0)).sA b (q*4+1) (vL y 1)).sA b (q*4+2) (vL y 2)).sA b (q*4+3) (vL y 3)).sA b (p*4) (vL x 0)).sA b (p*4+1) (vL x 1)).sA b (p*4+2) (vL x 2)).sA b (p*4+3) (vL x 3)).drew):=by
  have w:W.ownsRow aB.b1 41 4 (.sl (some (ad b 0)) f D) f (fw (T++y::(U++[x]))):=by have:=j.own;rw[<-o] at this;exact this
  have m:=wW (w4 y) W _ (q*4) w;have l:=wW (w4 x) _ _ (p*4) m.1;have B:=cu (T++y::U) [] x y;rw[show(T++y::U).length=q by simp;omega,aBL] at B;have C:=cu T (U++[y]) y x;rw[<-t] at C;rw[show lZ (fw (T++y::(U++[x]))) (q*4) (w4 y)=fw (T++y::(U++[y])) from by simpa using B] at l m;rw[C] at l;have A:=cx m.2 w m.1;have p2:=cx l.2 m.1 l.1;have s:Below ((W.setCells b (q*4) (w4 y)).setCells b (p*4) (w4 x)).heap.size _ ((W.setCells b (q*4) (w4 y)).setCells b (p*4) (w4 x)).drew:=bR.drew;refine⟨⟨?_,by simp;omega,?_⟩,(A.tr p2).tr (Px.aF s _)⟩
  · have:=dI l.1 s
    rw[show(T++x::(U++[y])).length=f by simp;omega];exact this
  · exact aAw j.low ((A.tr p2).tr (Px.aF s _)).size
 clear o v n r t z j;go_enter (qz func338),ntmps338;go_wp2_with fail;refine rq (fun V=>True) trivial fun d=>?_;refine t6 0 1 2 3 4 5 d ?_;refine t4 6 8 9 10 d ?_;refine wpAnyH_ready (rs:=[7,11]) kR sI ?_;refine AllReadyH.cons rfl (fun K c=>?_) (AllReadyH.cons rfl (fun K c=>?_) AllReadyH.nil)
 · skip
   go_simp;refine c.out _ _ trivial fun d=>?_;refine rA 11 fun K c=>?_;go_simp;refine c.out _ _ trivial fun d=>?_;refine t1 12 d ?_;refine rA 13 fun K c=>?_;go_simp;refine c.out _ _ trivial fun d=>?_;refine t1 14 d ?_;refine rA 15 fun K c=>?_;go_simp;refine c.out _ _ trivial fun d=>?_;refine dn ?_;show bodyPost zQ.prog f338 _ Exit.normal _ _;simp[bodyPost,results,results338,go_sem];exact h
 · skip
   go_simp;refine c.out _ _ trivial fun d=>?_;refine rA 7 fun K c=>?_;go_simp;refine c.out _ _ trivial fun d=>?_;refine t1 12 d ?_;refine rA 13 fun K c=>?_;go_simp;refine c.out _ _ trivial fun d=>?_;refine t1 14 d ?_;refine rA 15 fun K c=>?_;go_simp;refine c.out _ _ trivial fun d=>?_;refine dn ?_;show bodyPost zQ.prog f338 _ Exit.normal _ _;simp[bodyPost,results,results338,go_sem];exact h
end
section
variable [aB]
def BM(x:Nat):Option (Nat×Nat×Nat):=
 if x<=64 then[some (0,0,0),some (2,1,3),some (2,1,3),some (2,1,5),some (2,1,5),some (2,1,5),some (2,1,5),some (2,1,5),some (3,1,8),some (3,1,8),some (2,1,10),some (2,1,5),some (2,1,3),some (2,1,3),some (2,1,3),some (2,1,3),some (2,1,3),some (1,1,3),some (2,1,3),some (2,1,3),some (2,1,3),some (1,1,3),some (2,1,3),none,some (0,1,2),some (1,1,20),some (0,1,2),some (0,1,2),some (0,1,2),some (1,1,3),some (0,1,2),some (0,1,2),some (0,1,2),none,none,none,none,none,none,none,some (1,0,2),some (1,1,3),some (2,0,3),some (2,0,3),some (1,1,50),some (2,0,5000),some (1,0,8),some (2,0,10),some (0,0,1),none,some (3,0,375),none,none,none,none,none,none,none,none,none,some (3,1,32000),some (7,1,40),some (6,1,40),some (2,0,0),some (1,0,0)][x]?.join
 else if x<96 then none else if x<=127 then some (0,1,3) else if x<=143 then some (x - 127,x - 126,3) else if x<=159 then some (x - 142,x - 142,3) else none
def RD:Option (Nat×Nat×Nat)->vZ
 |some (t,l,g)=>.tuple #[.agg #[.int .i64 t,.int .i64 l,.int .i64 g],.bool true]
 |none=>.tuple #[.agg #[.int .i64 0,.int .i64 0,.int .i64 0],.bool false]
def L5(x:Nat)(k:65<=x)(i:x<256)(w:WR):Cq 317 #[vI (x:Int)] w fun e w'=>e=.rt (RD (BM x))/\Bw w w':=by
 have a:¬x<=64:=oM
 unfold BM;rw[if_neg a];by_cases c:x<96
 .rw[if_pos c];have h:¬(96:Int)<=x:=oM
  have b:¬(128:Int)<=x:=oM
  have d:¬(144:Int)<=x:=oM
  go_enter zQ.func317,ntmps317;go_wp2;simp[bodyPost,results,results317,go_sem,RD];exact ba
 .rw[if_neg c];have h:(96:Int)<=x:=oM
  by_cases c2:x<=127
  .rw[if_pos c2];have b:(x:Int)<=127:=oM
   go_enter zQ.func317,ntmps317;go_wp2;simp[bodyPost,results,results317,go_sem,RD];exact ba
  .rw[if_neg c2];have b:¬(x:Int)<=127:=oM
   have d:(128:Int)<=x:=oM
   by_cases c3:x<=143
   .rw[if_pos c3];have f:(x:Int)<=143:=oM
    have w1:iw ((x:Int) - 128)=(x:Int) - 128:=iW;have w2:IntKind.i64.wrap ((x:Int) - 128+1)=((x - 127:Nat):Int):=by rw[IntWalk.i64_in _ ⟨oM,oM⟩];omega
    have w3:IntKind.i64.wrap (((x - 127:Nat):Int)+1)=((x - 126:Nat):Int):=by rw[IntWalk.i64_in _ ⟨oM,oM⟩];omega
    go_enter zQ.func317,ntmps317;go_wp2;simp[bodyPost,results,results317,go_sem,RD];exact ba
   .rw[if_neg c3];have f:¬(x:Int)<=143:=oM
    have j:(144:Int)<=x:=oM
    by_cases c4:x<=159
    .rw[if_pos c4];have g:(x:Int)<=159:=oM
     have w1:iw ((x:Int) - 144)=(x:Int) - 144:=iW;have w2:IntKind.i64.wrap ((x:Int) - 144+2)=((x - 142:Nat):Int):=by rw[IntWalk.i64_in _ ⟨oM,oM⟩];omega
     go_enter zQ.func317,ntmps317;go_wp2;simp[bodyPost,results,results317,go_sem,RD];exact ba
    .rw[if_neg c4];have g:¬(x:Int)<=159:=oM
     go_enter zQ.func317,ntmps317;go_wp2;simp[bodyPost,results,results317,go_sem,RD];exact ba
def qx(x:Nat)(h:¬x<=64)(i:x<256)(w:WR):Cq 290 #[vB (x:Int)] w fun e w'=>e=.rt (RD (BM x))/\Bw w w':=by
 have f:=L5 x oM i;have S:iw (x:Int)=x:=iW;have R:¬(x:Int)=0:=oM
 have j:¬(x:Int)=63:=oM
 have s:¬(x:Int)=64:=oM
 have O:¬(x:Int)=48:=oM
 have p:¬(x:Int)=24:=oM
 have L:¬(x:Int)=26:=oM
 have D:¬(x:Int)=27:=oM
 have I:¬(x:Int)=28:=oM
 have q:¬(x:Int)=30:=oM
 have m:¬(x:Int)=31:=oM
 have n:¬(x:Int)=32:=oM
 have y:¬(x:Int)=40:=oM
 have E:¬(x:Int)=29:=oM
 have F:¬(x:Int)=41:=oM
 have G:¬(x:Int)=42:=oM
 have M:¬(x:Int)=43:=oM
 have r:¬(x:Int)=46:=oM
 have u:¬(x:Int)=47:=oM
 have N:¬(x:Int)=25:=oM
 have J:¬(x:Int)=44:=oM
 have K:¬(x:Int)=50:=oM
 have H:¬(x:Int)=45:=oM
 have o:¬(x:Int)=60:=oM
 have k:¬(x:Int)=61:=oM
 have v:¬(x:Int)=62:=oM
 have A:¬(x:Int)<=22:=oM
 clear i h;go_enter (qz func290),ntmps290;go_wp2_with fail;apply(f _).mono;rintro e w' ⟨rfl,d⟩;clear f;have b:=(ba (w:=w) (o:=.ce #[vI 0,vI 0,vI 0] 369)).tr (d.mono sI);have a:=(d.block _ sI).tr (aM w (.ce #[vI 0,vI 0,vI 0] 369));have C:=aG a;have z:=bq a 0;have B:=bq a 1;have c2:=bq a 2;have P:=aQ a 0;have Q:=aQ a 1;have T:=aQ a 2;rcases hsx:BM x with _| ⟨t,l,g⟩;all_goals
  have c:=US hsx;clear hsx;unfold RD;go_wp2;simp[bodyPost,results,results290,go_sem,z,B,c2];refine⟨by rw[c.out];rfl,?_⟩;refine Below.sC (Below.sC (Below.sC b ?_ _) ?_ _) ?_ _<;>exact aAz _
def cz(x:Nat)(h:x<=64)(w:WR):Cq 290 #[vB (x:Int)] w fun e w'=>e=.rt (RD (BM x))/\Bw w w':=by
 have a:x=0\/x=1\/x=2\/x=3\/x=4\/x=5\/x=6\/x=7\/x=8\/x=9\/x=10\/x=11\/x=12\/x=13\/x=14\/x=15\/x=16\/x=17\/x=18\/x=19\/x=20\/x=21\/x=22\/x=23\/x=24\/x=25\/x=26\/x=27\/x=28\/x=29\/x=30\/x=31\/x=32\/x=33\/x=34\/x=35\/x=36\/x=37\/x=38\/x=39\/x=40\/x=41\/x=42\/x=43\/x=44\/x=45\/x=46\/x=47\/x=48\/x=49\/x=50\/x=51\/x=52\/x=53\/x=54\/x=55\/x=56\/x=57\/x=58\/x=59\/x=60\/x=61\/x=62\/x=63\/x=64:=oM
 clear h;rcases a with rfl|rfl|rfl|rfl|rfl|rfl|rfl|rfl|rfl|rfl|rfl|rfl|rfl|rfl|rfl|rfl|rfl|rfl|rfl|rfl|rfl|rfl|rfl|rfl|rfl|rfl|rfl|rfl|rfl|rfl|rfl|rfl|rfl|rfl|rfl|rfl|rfl|rfl|rfl|rfl|rfl|rfl|rfl|rfl|rfl|rfl|rfl|rfl|rfl|rfl|rfl|rfl|rfl|rfl|rfl|rfl|rfl|rfl|rfl|rfl|rfl|rfl|rfl|rfl|rfl;all_goals
  go_enter (qz func290),ntmps290;go_wp2;simp[bodyPost,results,results290,go_sem,RD,BM];first|exact ba|exact (ba).tr ((ba).mono sI)
def df(x:Nat)(a:x<256)(w:WR):Cq 290 #[vB (x:Int)] w fun e w'=>e=.rt (RD (BM x))/\Bw w w':=by
 by_cases h:x<=64
 .exact cz x h w
 .exact qx x h a w
end
section
variable [aB]
attribute [local go_sem] wd
def mA{t:Nat}(d:BM x=some (t,l,g)){a b e:Nat}(h:BM x=some (a,b,e))(c:t<=S.length):a<=S.length:=by rw[d] at h;cases h;exact c
def At(h:dT W f F sv mv S X)(m:W.cA 1 0=some (.iface t v))(j:1<W.heap.size)(p:1<=S.length):
   Cq 291 #[pq f 0,vB 41] W fun e w'=>Bw W w'/\AN (.iface t v) (Wi (tw S 1) 32) e:=by
 have c:=fun w (g:Bw W w)=>AK (h.below g) 1 oM oM;have d:∀w,Bw W w->Cq 318 #[wd (tw S 1),.agg #[vU 32,vU 0,vU 0,vU 0]] w fun e w'=>Bw w w'/\AN (.iface t v) (Wi (tw S 1) 32) e:=fun w g=>by have:=oI (tw S 1) 32 (eO h _) dC ((g.cell (p:=(ad 1 0)) j).tr m) (aAy j g.size);rw[iU 32 dC] at this;exact this
 have o:=bq h.fc 14;have n:=aG h.fc;go_enter (qz func291),ntmps291;go_wp2_with fail;apply(c _ bR).mono;rintro e w1 ⟨rfl,b⟩;clear c o;go_wp2_with fail;apply(d _ b).mono;rintro e w2 ⟨i,a,k,rfl,l⟩;clear d;go_wp2;simp[bodyPost,results,results291,go_sem];exact⟨b.tr (i.mono b.size),a,k,rfl,l⟩
def Au(h:dT W f F sv mv S X)(m:W.cA 1 0=some (.iface t v))(j:1<W.heap.size)(p:1<=S.length):
   Cq 291 #[pq f 0,vB 42] W fun e w'=>Bw W w'/\AN (.iface t v) (Wi (tw S 1) 32) e:=by
 have c:=fun w (g:Bw W w)=>AK (h.below g) 1 oM oM;have d:∀w,Bw W w->Cq 318 #[wd (tw S 1),.agg #[vU 32,vU 0,vU 0,vU 0]] w fun e w'=>Bw w w'/\AN (.iface t v) (Wi (tw S 1) 32) e:=fun w g=>by have:=oI (tw S 1) 32 (eO h _) dC ((g.cell (p:=(ad 1 0)) j).tr m) (aAy j g.size);rw[iU 32 dC] at this;exact this
 have o:=bq h.fc 14;have n:=aG h.fc;go_enter (qz func291),ntmps291;go_wp2_with fail;apply(c _ bR).mono;rintro e w1 ⟨rfl,b⟩;clear c o;go_wp2_with fail;apply(d _ b).mono;rintro e w2 ⟨i,a,k,rfl,l⟩;clear d;go_wp2;simp[bodyPost,results,results291,go_sem];exact⟨b.tr (i.mono b.size),a,k,rfl,l⟩
def Aw(h:dT W f F sv mv S X)(m:W.cA 1 0=some (.iface t v))(j:1<W.heap.size)(p:1<=S.length):
   Cq 291 #[pq f 0,vB 43] W fun e w'=>Bw W w'/\AN (.iface t v) (Wi (tw S 1) 1) e:=by
 have c:=fun w (g:Bw W w)=>AK (h.below g) 1 oM oM;have d:∀w,Bw W w->Cq 318 #[wd (tw S 1),.agg #[vU 1,vU 0,vU 0,vU 0]] w fun e w'=>Bw w w'/\AN (.iface t v) (Wi (tw S 1) 1) e:=fun w g=>by have:=oI (tw S 1) 1 (eO h _) dC ((g.cell (p:=(ad 1 0)) j).tr m) (aAy j g.size);rw[iU 1 dC] at this;exact this
 have o:=bq h.fc 14;have n:=aG h.fc;go_enter (qz func291),ntmps291;go_wp2_with fail;apply(c _ bR).mono;rintro e w1 ⟨rfl,b⟩;clear c o;go_wp2_with fail;apply(d _ b).mono;rintro e w2 ⟨i,a,k,rfl,l⟩;clear d;go_wp2;simp[bodyPost,results,results291,go_sem];exact⟨b.tr (i.mono b.size),a,k,rfl,l⟩
def Ax(h:dT W f F sv mv S X)(u:W.cA 1 0=some (.iface t v))(q:1<W.heap.size)(x:2<=S.length):
  Cq 291 #[pq f 0,vB 50] W fun e w'=>Bw W w'/\AN (.iface t v) (Wi (tw S 1) (tw S 2)) e:=by
 have j:=fun w (g:Bw W w)=>AK (h.below g) 1 oM oM;have i:=fun w (g:Bw W w)=>AK (h.below g) 2 oM oM;have o:∀w,Bw W w->Cq 318 #[wd (tw S 1),wd (tw S 2)] w fun e w'=>Bw w w'/\AN (.iface t v) (Wi (tw S 1) (tw S 2)) e:=fun w g=>oI _ _ (eO h _) (eO h _) ((g.cell (p:=(ad 1 0)) q).tr u) (aAy q g.size);go_enter (qz func291),ntmps291;go_wp2_with fail;refine rq (fun V=>V.heap[f]?=ob (iE F sv mv) 225) h.fc fun b=>?_;refine t3 0 1 2 b ?_;refine tV 3 (fun _ p=>bq p 14) b ?_;refine t3 5 6 7 b ?_;refine tV 8 (fun _ p=>bq p 14) b ?_;refine rA 4 fun K k=>?_;go_simp;apply(j _ bR.drew).mono;rintro e w1 ⟨rfl,m⟩;go_wp2_with fail;refine k.out _ _ (bk m b) fun b=>?_;have c:Bw W w1:=bR.drew.tr m;refine rA 9 fun K k=>?_;go_simp;apply(i w1 c).mono;rintro e w2 ⟨rfl,l⟩;go_wp2_with fail;refine k.out _ _ (bk l b) fun b=>?_;have d:=c.tr (l.mono c.size);refine rA 10 fun K k=>?_;go_simp;apply(o w2 d).mono;rintro e w3 ⟨n,a,r,rfl,s⟩;go_wp2_with fail;refine k.out _ _ (bk n b) fun b=>?_;refine t4 11 12 13 14 b ?_;refine dn ?_;clear o;go_wp2;simp[bodyPost,results,results291,go_sem];exact⟨d.tr (n.mono d.size),a,r,rfl,s⟩
def Ay(h:dT W f F sv mv S X)(u:W.cA 1 0=some (.iface t v))(q:1<W.heap.size)(x:2<=S.length):
  Cq 291 #[pq f 0,vB 63] W fun e w'=>Bw W w'/\AN (.iface t v) (Wi (tw S 1) (tw S 2)) e:=by
 have j:=fun w (g:Bw W w)=>AK (h.below g) 1 oM oM;have i:=fun w (g:Bw W w)=>AK (h.below g) 2 oM oM;have o:∀w,Bw W w->Cq 318 #[wd (tw S 1),wd (tw S 2)] w fun e w'=>Bw w w'/\AN (.iface t v) (Wi (tw S 1) (tw S 2)) e:=fun w g=>oI _ _ (eO h _) (eO h _) ((g.cell (p:=(ad 1 0)) q).tr u) (aAy q g.size);go_enter (qz func291),ntmps291;go_wp2_with fail;refine rq (fun V=>V.heap[f]?=ob (iE F sv mv) 225) h.fc fun b=>?_;refine t3 0 1 2 b ?_;refine tV 3 (fun _ p=>bq p 14) b ?_;refine t3 5 6 7 b ?_;refine tV 8 (fun _ p=>bq p 14) b ?_;refine rA 4 fun K k=>?_;go_simp;apply(j _ bR.drew).mono;rintro e w1 ⟨rfl,m⟩;go_wp2_with fail;refine k.out _ _ (bk m b) fun b=>?_;have c:Bw W w1:=bR.drew.tr m;refine rA 9 fun K k=>?_;go_simp;apply(i w1 c).mono;rintro e w2 ⟨rfl,l⟩;go_wp2_with fail;refine k.out _ _ (bk l b) fun b=>?_;have d:=c.tr (l.mono c.size);refine rA 10 fun K k=>?_;go_simp;apply(o w2 d).mono;rintro e w3 ⟨n,a,r,rfl,s⟩;go_wp2_with fail;refine k.out _ _ (bk n b) fun b=>?_;refine t4 11 12 13 14 b ?_;refine dn ?_;clear o;go_wp2;simp[bodyPost,results,results291,go_sem];exact⟨d.tr (n.mono d.size),a,r,rfl,s⟩
def Az(h:dT W f F sv mv S X)(u:W.cA 1 0=some (.iface t v))(q:1<W.heap.size)(x:3<=S.length):
  Cq 291 #[pq f 0,vB 60] W fun e w'=>Bw W w'/\AN (.iface t v) (Wi (tw S 2) (tw S 3)) e:=by
 have j:=fun w (g:Bw W w)=>AK (h.below g) 2 oM oM;have i:=fun w (g:Bw W w)=>AK (h.below g) 3 oM oM;have o:∀w,Bw W w->Cq 318 #[wd (tw S 2),wd (tw S 3)] w fun e w'=>Bw w w'/\AN (.iface t v) (Wi (tw S 2) (tw S 3)) e:=fun w g=>oI _ _ (eO h _) (eO h _) ((g.cell (p:=(ad 1 0)) q).tr u) (aAy q g.size);go_enter (qz func291),ntmps291;go_wp2_with fail;refine rq (fun V=>V.heap[f]?=ob (iE F sv mv) 225) h.fc fun b=>?_;refine t3 0 1 2 b ?_;refine tV 3 (fun _ p=>bq p 14) b ?_;refine t3 5 6 7 b ?_;refine tV 8 (fun _ p=>bq p 14) b ?_;refine rA 4 fun K k=>?_;go_simp;apply(j _ bR.drew).mono;rintro e w1 ⟨rfl,m⟩;go_wp2_with fail;refine k.out _ _ (bk m b) fun b=>?_;have c:Bw W w1:=bR.drew.tr m;refine rA 9 fun K k=>?_;go_simp;apply(i w1 c).mono;rintro e w2 ⟨rfl,l⟩;go_wp2_with fail;refine k.out _ _ (bk l b) fun b=>?_;have d:=c.tr (l.mono c.size);refine rA 10 fun K k=>?_;go_simp;apply(o w2 d).mono;rintro e w3 ⟨n,a,r,rfl,s⟩;go_wp2_with fail;refine k.out _ _ (bk n b) fun b=>?_;refine t4 11 12 13 14 b ?_;refine dn ?_;clear o;go_wp2;simp[bodyPost,results,results291,go_sem];exact⟨d.tr (n.mono d.size),a,r,rfl,s⟩
def A4(h:dT W f F sv mv S X)(d:W.cA 1 0=some (.iface t v))(i:1<W.heap.size)(k:7<=S.length):
  Cq 291 #[pq f 0,vB 61] W fun e w'=>Bw W w'/\AN (.iface t v) (fun size=>Wi (tw S 4) (tw S 5) size/\Wi (tw S 6) (tw S 7) size) e:=by
 have b:=Gg h 4 oM oM d i;go_enter (qz func291),ntmps291;go_wp2_with fail;apply b.mono;rintro e w2 ⟨c,a,g,rfl,j⟩;clear b;go_wp2;simp[bodyPost,results,results291,go_sem];exact⟨c,a,g,rfl,j⟩
def A5(h:dT W f F sv mv S X)(d:W.cA 1 0=some (.iface t v))(i:1<W.heap.size)(k:6<=S.length):
  Cq 291 #[pq f 0,vB 62] W fun e w'=>Bw W w'/\AN (.iface t v) (fun size=>Wi (tw S 3) (tw S 4) size/\Wi (tw S 5) (tw S 6) size) e:=by
 have b:=Gg h 3 oM oM d i;go_enter (qz func291),ntmps291;go_wp2_with fail;apply b.mono;rintro e w2 ⟨c,a,g,rfl,j⟩;clear b;go_wp2;simp[bodyPost,results,results291,go_sem];exact⟨c,a,g,rfl,j⟩
def A7(x:Nat)(k:x≠41/\x≠42/\x≠43/\x≠50/\x≠63/\x≠60/\x≠61/\x≠62):
  Cq 291 #[pq f 0,vB (x:Int)] W fun e w'=>e=.rt (.tuple #[vI 0,.nilIface])/\w'=W:=by
 have j:¬(x:Int)=41:=oM
 have c:¬(x:Int)=42:=oM
 have b:¬(x:Int)=43:=oM
 have g:¬(x:Int)=50:=oM
 have a:¬(x:Int)=63:=oM
 have i:¬(x:Int)=60:=oM
 have d:¬(x:Int)=61:=oM
 have h:¬(x:Int)=62:=oM
 clear k;go_enter (qz func291),ntmps291;go_wp2;simp[bodyPost,results,results291,go_sem]
def AN.imp{Q b:Nat->Prop}{e:Ending}(h:AN E Q e)(f:∀n,Q n->b n):AN E b e:=
 let⟨a,c,i,g⟩:=h
 ⟨a,c,i,g.imp (fun⟨h3,n,h4,j,d⟩=>⟨h3,n,h4,j,f n d⟩) id⟩
def dg(h:dT W f F sv mv S X)(d:W.cA 1 0=some (.iface t v))(j:1<W.heap.size){k:Nat}(m:BM x=some (k,l,g))(i:k<=S.length):
  Cq 291 #[pq f 0,vB (x:Int)] W fun e w'=>Bw W w'/\AN (.iface t v) (Tz x S) e:=by
 by_cases a:x=41\/x=42\/x=43\/x=50\/x=63\/x=60\/x=61\/x=62
 .rcases a with rfl|rfl|rfl|rfl|rfl|rfl|rfl|rfl
  .exact(At h d j (mA (S:=S) m rfl i)).mono fun e w' ⟨c,a⟩=>⟨c,a.imp fun n b=>⟨fun _=>b.resolve_left dC,sI,sI,sI,sI,sI⟩⟩
  .exact(Au h d j (aAw (by decide:1<=2) (mA (S:=S) m rfl i))).mono fun e w' ⟨c,a⟩=>⟨c,a.imp fun n b=>⟨fun _=>b.resolve_left dC,sI,sI,sI,sI,sI⟩⟩
  .exact(Aw h d j (aAw (by decide:1<=2) (mA (S:=S) m rfl i))).mono fun e w' ⟨c,a⟩=>⟨c,a.imp fun n b=>⟨sI,fun _=>b.resolve_left dC,sI,sI,sI,sI⟩⟩
  .exact(Ax h d j (aAw (by decide:2<=3) (mA (S:=S) m rfl i))).mono fun e w' ⟨c,a⟩=>⟨c,a.imp fun n b=>⟨sI,sI,fun _=>b,sI,sI,sI⟩⟩
  .exact(Ay h d j (mA (S:=S) m rfl i)).mono fun e w' ⟨c,a⟩=>⟨c,a.imp fun n b=>⟨sI,sI,fun _=>b,sI,sI,sI⟩⟩
  .exact(Az h d j (mA (S:=S) m rfl i)).mono fun e w' ⟨c,a⟩=>⟨c,a.imp fun n b=>⟨sI,sI,sI,fun _=>b,sI,sI⟩⟩
  .exact(A4 h d j (mA (S:=S) m rfl i)).mono fun e w' ⟨c,a⟩=>⟨c,a.imp fun n b=>⟨sI,sI,sI,sI,fun _=>b,sI⟩⟩
  .exact(A5 h d j (mA (S:=S) m rfl i)).mono fun e w' ⟨c,a⟩=>⟨c,a.imp fun n b=>⟨sI,sI,sI,sI,sI,fun _=>b⟩⟩
 .apply(A7 x oM).mono;rintro e w' ⟨rfl,rfl⟩;exact⟨Below.refl _ _,_,_,rfl,.inl ⟨rfl,0,rfl,dC,oM,oM,oM,oM,oM,oM⟩⟩
end
end Go.Mark
