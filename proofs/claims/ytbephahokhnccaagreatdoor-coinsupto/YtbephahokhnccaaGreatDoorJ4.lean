import Derived.WalkSpells
import Derived.WalkLawsBesides
import Derived.Shelf.Spec.BitsCarry
import Derived.Deep.RegionHeld3
import Derived.BigQuiet
import Derived.Handy
import Derived.Test.YtbephahokhnccaaGreatDoorJ3
set_option linter.all false
set_option maxRecDepth 100000
set_option maxHeartbeats 1000000
namespace Go.Mark
def M:Nat:=115792089237316195423570985008687907853269984665640564039457584007913129639936
def aI(n i:Nat):Int:=((n / 18446744073709551616 ^ i % 18446744073709551616:Nat):Int)
abbrev vL(n i:Nat):vZ:=.int .u64 (aI n i)
abbrev wd(n:Nat):vZ:=.agg #[.int .u64 (aI n 0),.int .u64 (aI n 1),.int .u64 (aI n 2),.int .u64 (aI n 3)]
def bJ(n i:Nat):0<=aI n i:=aCn _
def bN(n i:Nat):aI n i<18446744073709551616:=by have:=aBE (n / 18446744073709551616 ^ i) (y:=18446744073709551616) (by decide);unfold aI;omega
def iN(n:Nat)(h:n<M):(n:Int)=aI n 0+aI n 1*18446744073709551616+aI n 2*340282366920938463463374607431768211456+aI n 3*6277101735386680763835789423207666416102355444464034512896:=by unfold aI M at*;simp only[Nat.pow_zero,Nat.pow_one,Nat.div_one,Nat.reducePow];omega
def NX(n:Nat)(a b d c:Int)(e:0<=a)(i:0<=b)(j:0<=d)(l:0<=c)(g:a<18446744073709551616)(f:b<18446744073709551616)(k:d<18446744073709551616)(m:c<18446744073709551616)(h:(n:Int)=a+b*18446744073709551616+d*340282366920938463463374607431768211456+c*6277101735386680763835789423207666416102355444464034512896):
  aI n 0=a/\aI n 1=b/\aI n 2=d/\aI n 3=c:=by
 unfold aI;simp only[Nat.pow_zero,Nat.pow_one,Nat.div_one,Nat.reducePow];refine⟨by omega,by omega,by omega,by omega⟩
def IS(a b d c:Int)(e:0<=a)(h:0<=b)(i:0<=d)(k:0<=c)(g:a<18446744073709551616)(f:b<18446744073709551616)(j:d<18446744073709551616)(l:c<18446744073709551616):
  ∃n:Nat,n<M/\aI n 0=a/\aI n 1=b/\aI n 2=d/\aI n 3=c:=by
 refine⟨(a+b*18446744073709551616+d*340282366920938463463374607431768211456+c*6277101735386680763835789423207666416102355444464034512896).toNat,by unfold M;omega,NX _ a b d c e h i k g f j l (by omega)⟩
def QI(m n:Nat)(c:m<M)(g:n<M)(f:aI m 0=aI n 0)(e:aI m 1=aI n 1)(d:aI m 2=aI n 2)(h3:aI m 3=aI n 3):m=n:=by have a:=iN m c;have b:=iN n g;rw[f,e,d,h3,<-b] at a;omega
def aL(x y c:Int):Int:=(x+y+c) % 18446744073709551616
def aH(x y c:Int):Int:=(x+y+c) / 18446744073709551616
def K8(x y c:Int):0<=aL x y c:=by unfold aL;omega
def K9(x y c:Int):aL x y c<18446744073709551616:=by unfold aL;omega
def Lq(x y c:Int)(d:0<=x)(a:0<=y)(b:0<=c):0<=aH x y c:=by unfold aH;omega
def Lr(x y c:Int)(d:x<18446744073709551616)(a:y<18446744073709551616)(b:c<=1):aH x y c<=1:=by unfold aH;omega
def aE(x y c:Int):x+y+c=aL x y c+aH x y c*18446744073709551616:=by unfold aL aH;omega
def sL(x y c:Int):Int:=(x - y - c) % 18446744073709551616
def sH(x y c:Int):Int:=if x<y+c then 1 else 0
def La(x y c:Int):0<=sL x y c:=by unfold sL;omega
def Lb(x y c:Int):sL x y c<18446744073709551616:=by unfold sL;omega
def zx(x y c:Int):0<=sH x y c:=by unfold sH;split<;>decide
def zy(x y c:Int):sH x y c<=1:=by unfold sH;split<;>decide
def sE(x y c:Int)(g:0<=x)(e:0<=y)(f:0<=c)(a:x<18446744073709551616)(d:y<18446744073709551616)(b:c<=1):x - y - c=sL x y c - sH x y c*18446744073709551616:=by unfold sL sH;split<;>omega
def ou(a b:Nat)(w:a<M)(k:b<M):
  aI ((a+b) % M) 0=aL (aI a 0) (aI b 0) 0/\aI ((a+b) % M) 1=aL (aI a 1) (aI b 1) (aH (aI a 0) (aI b 0) 0)/\
  aI ((a+b) % M) 2=aL (aI a 2) (aI b 2) (aH (aI a 1) (aI b 1) (aH (aI a 0) (aI b 0) 0))/\
  aI ((a+b) % M) 3=aL (aI a 3) (aI b 3) (aH (aI a 2) (aI b 2) (aH (aI a 1) (aI b 1) (aH (aI a 0) (aI b 0) 0)))/\
  (((a+b) / M:Nat):Int)=aH (aI a 3) (aI b 3) (aH (aI a 2) (aI b 2) (aH (aI a 1) (aI b 1) (aH (aI a 0) (aI b 0) 0))):=by
 have t:=iN a w;have z:=iN b k;have h:=aE (aI a 0) (aI b 0) 0;have u:=aE (aI a 1) (aI b 1) (aH (aI a 0) (aI b 0) 0);have o:=aE (aI a 2) (aI b 2) (aH (aI a 1) (aI b 1) (aH (aI a 0) (aI b 0) 0));have v:=aE (aI a 3) (aI b 3) (aH (aI a 2) (aI b 2) (aH (aI a 1) (aI b 1) (aH (aI a 0) (aI b 0) 0)));have r:=K8 (aI a 0) (aI b 0) 0;have n:=K9 (aI a 0) (aI b 0) 0;have x:=K8 (aI a 1) (aI b 1) (aH (aI a 0) (aI b 0) 0);have p:=K9 (aI a 1) (aI b 1) (aH (aI a 0) (aI b 0) 0);have y:=K8 (aI a 2) (aI b 2) (aH (aI a 1) (aI b 1) (aH (aI a 0) (aI b 0) 0));have l:=K9 (aI a 2) (aI b 2) (aH (aI a 1) (aI b 1) (aH (aI a 0) (aI b 0) 0));have q:=K8 (aI a 3) (aI b 3) (aH (aI a 2) (aI b 2) (aH (aI a 1) (aI b 1) (aH (aI a 0) (aI b 0) 0)));have u3:=K9 (aI a 3) (aI b 3) (aH (aI a 2) (aI b 2) (aH (aI a 1) (aI b 1) (aH (aI a 0) (aI b 0) 0)));generalize aH (aI a 3) (aI b 3) (aH (aI a 2) (aI b 2) (aH (aI a 1) (aI b 1) (aH (aI a 0) (aI b 0) 0)))=c3 at*;generalize aL (aI a 3) (aI b 3) (aH (aI a 2) (aI b 2) (aH (aI a 1) (aI b 1) (aH (aI a 0) (aI b 0) 0)))=f at*;generalize aL (aI a 2) (aI b 2) (aH (aI a 1) (aI b 1) (aH (aI a 0) (aI b 0) 0))=c at*;generalize aH (aI a 2) (aI b 2) (aH (aI a 1) (aI b 1) (aH (aI a 0) (aI b 0) 0))=c2 at*;generalize aL (aI a 1) (aI b 1) (aH (aI a 0) (aI b 0) 0)=e at*;generalize aH (aI a 1) (aI b 1) (aH (aI a 0) (aI b 0) 0)=A at*;generalize aL (aI a 0) (aI b 0) 0=d at*;generalize aH (aI a 0) (aI b 0) 0=B at*;have CL:((a+b:Nat):Int)=d+e*18446744073709551616+c*340282366920938463463374607431768211456+f*6277101735386680763835789423207666416102355444464034512896+c3*115792089237316195423570985008687907853269984665640564039457584007913129639936:=by omega
 clear t z h u o v;have s:(((a+b) % M:Nat):Int)=d+e*18446744073709551616+c*340282366920938463463374607431768211456+f*6277101735386680763835789423207666416102355444464034512896:=by unfold M;omega
 have g:(((a+b) / M:Nat):Int)=c3:=by unfold M;omega
 have⟨j,m,i,h3⟩:=NX _ d e c f r x y q n p l u3 s;exact⟨j,m,i,h3,g⟩
def ox(a b:Nat)(t:a<M)(h:b<M):
  aI ((a+M - b) % M) 0=sL (aI a 0) (aI b 0) 0/\aI ((a+M - b) % M) 1=sL (aI a 1) (aI b 1) (sH (aI a 0) (aI b 0) 0)/\
  aI ((a+M - b) % M) 2=sL (aI a 2) (aI b 2) (sH (aI a 1) (aI b 1) (sH (aI a 0) (aI b 0) 0))/\
  aI ((a+M - b) % M) 3=sL (aI a 3) (aI b 3) (sH (aI a 2) (aI b 2) (sH (aI a 1) (aI b 1) (sH (aI a 0) (aI b 0) 0))):=by
 have q:=iN a t;have w:=iN b h;have r0:=zx (aI a 0) (aI b 0) 0;have m:=zy (aI a 0) (aI b 0) 0;have r1:=zx (aI a 1) (aI b 1) (sH (aI a 0) (aI b 0) 0);have t1:=zy (aI a 1) (aI b 1) (sH (aI a 0) (aI b 0) 0);have r2:=zx (aI a 2) (aI b 2) (sH (aI a 1) (aI b 1) (sH (aI a 0) (aI b 0) 0));have t2:=zy (aI a 2) (aI b 2) (sH (aI a 1) (aI b 1) (sH (aI a 0) (aI b 0) 0));have x:=zx (aI a 3) (aI b 3) (sH (aI a 2) (aI b 2) (sH (aI a 1) (aI b 1) (sH (aI a 0) (aI b 0) 0)));have t3:=zy (aI a 3) (aI b 3) (sH (aI a 2) (aI b 2) (sH (aI a 1) (aI b 1) (sH (aI a 0) (aI b 0) 0)));have g:=sE (aI a 0) (aI b 0) 0 (bJ _ _) (bJ _ _) (by decide) (bN _ _) (bN _ _) (by decide);have r:=sE (aI a 1) (aI b 1) _ (bJ _ _) (bJ _ _) r0 (bN _ _) (bN _ _) m;have k:=sE (aI a 2) (aI b 2) _ (bJ _ _) (bJ _ _) r1 (bN _ _) (bN _ _) t1;have s:=sE (aI a 3) (aI b 3) _ (bJ _ _) (bJ _ _) r2 (bN _ _) (bN _ _) t2;have o:=La (aI a 0) (aI b 0) 0;have j:=Lb (aI a 0) (aI b 0) 0;have u:=La (aI a 1) (aI b 1) (sH (aI a 0) (aI b 0) 0);have l:=Lb (aI a 1) (aI b 1) (sH (aI a 0) (aI b 0) 0);have v:=La (aI a 2) (aI b 2) (sH (aI a 1) (aI b 1) (sH (aI a 0) (aI b 0) 0));have i:=Lb (aI a 2) (aI b 2) (sH (aI a 1) (aI b 1) (sH (aI a 0) (aI b 0) 0));have n:=La (aI a 3) (aI b 3) (sH (aI a 2) (aI b 2) (sH (aI a 1) (aI b 1) (sH (aI a 0) (aI b 0) 0)));have u3:=Lb (aI a 3) (aI b 3) (sH (aI a 2) (aI b 2) (sH (aI a 1) (aI b 1) (sH (aI a 0) (aI b 0) 0)));generalize sH (aI a 3) (aI b 3) (sH (aI a 2) (aI b 2) (sH (aI a 1) (aI b 1) (sH (aI a 0) (aI b 0) 0)))=c3 at*;generalize sL (aI a 3) (aI b 3) (sH (aI a 2) (aI b 2) (sH (aI a 1) (aI b 1) (sH (aI a 0) (aI b 0) 0)))=f at*;generalize sL (aI a 2) (aI b 2) (sH (aI a 1) (aI b 1) (sH (aI a 0) (aI b 0) 0))=c at*;generalize sH (aI a 2) (aI b 2) (sH (aI a 1) (aI b 1) (sH (aI a 0) (aI b 0) 0))=c2 at*;generalize sL (aI a 1) (aI b 1) (sH (aI a 0) (aI b 0) 0)=e at*;generalize sH (aI a 1) (aI b 1) (sH (aI a 0) (aI b 0) 0)=y at*;generalize sL (aI a 0) (aI b 0) 0=d at*;generalize sH (aI a 0) (aI b 0) 0=z at*;have CL:(a:Int) - b=d+e*18446744073709551616+c*340282366920938463463374607431768211456+f*6277101735386680763835789423207666416102355444464034512896 - c3*115792089237316195423570985008687907853269984665640564039457584007913129639936:=by omega
 clear q w g r k s;have p:(((a+M - b) % M:Nat):Int)=d+e*18446744073709551616+c*340282366920938463463374607431768211456+f*6277101735386680763835789423207666416102355444464034512896:=by unfold M at*;omega
 exact NX _ d e c f o u v n j l i u3 p
end Go.Mark
namespace Go.Mark
open Go.RowKit Go.Proofs Go.Proofs.Tryz
section
open Go.Shelf
attribute [local go_sem] wd
def QJ(x y c:Int)(e:0<=x)(b:0<=y)(a:0<=c)(d:c<=1)(w:WR):(callFunc 142 #[.int .u64 x,.int .u64 y,.int .u64 c]).run zQ.prog w=
  .ok (.value (.tuple #[.int .u64 ((x+y+c) % 18446744073709551616),.int .u64 ((x+y+c) / 18446744073709551616)])) w:=by
 rw[run_callFunc_extern Yr kR kR kR (e:=add64Entry) kR,run_add64 x y c e b a d];rfl
def uB(x y c:Int)(e:0<=x)(b:0<=y)(a:0<=c)(d:c<=1):∀w,(callFunc 142 #[.int .u64 x,.int .u64 y,.int .u64 c]).run zQ.prog w=
 .ok (.value (.tuple #[.int .u64 (aL x y c),.int .u64 (aH x y c)])) w:=fun w=>QJ x y c e b a d w
def ZS(w:WR)(d c a b:Obj):Bw w ((((w.alloc d).alloc c).alloc a).alloc b):=
 (((bR.aL lR _).aL sI _).aL sQ0 _).aL sQ0 _
def ZT(w:WR)(c b a:Obj):Bw w (((w.alloc c).alloc b).alloc a):=
 ((bR.aL lR _).aL sI _).aL sQ0 _
def Fj(b d g i a c f h:Int)(w:WR)(p:0<=b)(m:0<=d)(p2:0<=g)(p3:0<=i)(j:0<=a)(l:0<=c)(q:0<=f)(u:0<=h)(t:b<18446744073709551616)(v:d<18446744073709551616)(s:g<18446744073709551616)(v0:a<18446744073709551616)(v1:c<18446744073709551616)(x:f<18446744073709551616):
  Cq 96 #[.agg #[vU b,vU d,vU g,vU i],.agg #[vU a,vU c,vU f,vU h]] w fun e z=>
   e=.rt (.tuple #[.agg #[vU (aL b a 0),vU (aL d c (aH b a 0)),vU (aL g f (aH d c (aH b a 0))),vU (aL i h (aH g f (aH d c (aH b a 0))))],vU (aH i h (aH g f (aH d c (aH b a 0))))])/\Bw w z:=by
 have A:=uB b a 0 p j (aBq 0) dC;have k:=Lq b a 0 p j (aBq 0);have n:=Lr b a 0 t v0 dC;have B:=uB d c _ m l k n;have k1:=Lq d c _ m l k;have o:=Lr d c _ v v1 n;have C:=uB g f _ p2 q k1 o;have y:=Lq g f _ p2 q k1;have r:=Lr g f _ s x o;have D:=uB i h _ p3 u y r;clear t v s v0 v1 x p m p2 p3 j l q u k k1 y n o r;go_enter (qz func96),ntmps96;go_wp2;refine wp_loop_rounds 5 ?_;rw[rounds_succ];go_wp2
 go_region
 go_wp2;rw[rounds_succ];go_wp2
 go_region
 go_wp2;rw[rounds_succ];go_wp2
 go_region
 go_wp2;rw[rounds_succ];go_wp2
 go_region
 go_wp2;rw[rounds_succ];go_wp2;simp[bodyPost,results,results96,go_sem];exact(ZS _ _ _ _ _).drew.drew.drew.drew
def sum(a b:Nat)(f:a<M)(k:b<M)(w:WR):
  Cq 96 #[wd a,wd b] w fun e d=>e=.rt (.tuple #[wd ((a+b) % M),vU (((a+b) / M:Nat):Int)])/\Bw w d:=by
 refine(Fj _ _ _ _ _ _ _ _ w (bJ a 0) (bJ a 1) (bJ a 2) (bJ a 3) (bJ b 0) (bJ b 1) (bJ b 2) (bJ b 3)
  (bN a 0) (bN a 1) (bN a 2) (bN b 0) (bN b 1) (bN b 2)).mono fun e d ⟨g,c⟩=>?_
 have⟨j,i,h,h3,h4⟩:=ou a b f k;unfold wd;rw[j,i,h,h3,h4];exact⟨g,c⟩
def Fl{W w1:WR}(a:Below W.heap.size W w1):(∀b o,b<W.heap.size->w1.cell? ⟨b,o,none⟩=W.cell? ⟨b,o,none⟩)/\(∀b o,b<W.heap.size->w1.frozen? ⟨b,o,none⟩=W.frozen? ⟨b,o,none⟩):=
 ⟨fun b o h=>a.cell (p:=(ad b o)) h,fun b o h=>a.frozen (p:=(ad b o)) h⟩
def dZ(x y:Int):Int:=if x<y then -1 else if y<x then 1 else 0
def vN(x y:Int)(w:WR):Cq 205 #[vU x,vU y] w fun e c=>e=.rt (vI (dZ x y))/\c=w:=by
 by_cases h:x<y
 .have a:dZ x y= -1:=by unfold dZ;rw[if_pos h]
  rw[a];clear a;go_enter (qz func205),ntmps205;go_wp2;go_ret;exact⟨rfl,rfl⟩
 .by_cases b:y<x
  .have a:dZ x y=1:=by unfold dZ;rw[if_neg h,if_pos b]
   rw[a];clear a;go_enter (qz func205),ntmps205;go_wp2;go_ret;exact⟨rfl,rfl⟩
  .have a:dZ x y=0:=by unfold dZ;rw[if_neg h,if_neg b]
   rw[a];clear a;go_enter (qz func205),ntmps205;go_wp2;go_ret;exact⟨rfl,rfl⟩
def Fo(f j k a i g l b:Int)(h:(a !=b)=true)(w:WR):
  Cq 163 #[.agg #[vU f,vU j,vU k,vU a],.agg #[vU i,vU g,vU l,vU b]] w fun e c=>e=.rt (vI (dZ a b))/\Bw w c:=by
 go_enter (qz func163),ntmps163;go_wp2;refine wp_loop_rounds 5 ?_;rw[rounds_succ];go_wp2
 go_quiet (fail)
 go_wp2
 go_region_with (go_at_call 205;apply(vN a b _).mono;rintro e c ⟨rfl,d⟩;rw[d])
 all_goals
  go_wp2;go_ret;exact⟨rfl,below_drewN (by go_grown) _⟩
def Fp(g k a j i b d:Int)(h:(a !=b)=true)(w:WR):
  Cq 163 #[.agg #[vU g,vU k,vU a,vU d],.agg #[vU j,vU i,vU b,vU d]] w fun e c=>e=.rt (vI (dZ a b))/\Bw w c:=by
 go_enter (qz func163),ntmps163;go_wp2;refine wp_loop_rounds 5 ?_;rw[rounds_succ];go_wp2
 go_quiet (fail)
 go_wp2;rw[rounds_succ];go_wp2
 go_quiet (fail)
 go_wp2
 go_region_with (go_at_call 205;apply(vN a b _).mono;rintro e c ⟨rfl,f⟩;rw[f])
 all_goals
  go_wp2;go_ret;exact⟨rfl,below_drewN (by go_grown) _⟩
def Fq(i b j a f d:Int)(h:(b !=a)=true)(w:WR):
  Cq 163 #[.agg #[vU i,vU b,vU f,vU d],.agg #[vU j,vU a,vU f,vU d]] w fun e c=>e=.rt (vI (dZ b a))/\Bw w c:=by
 go_enter (qz func163),ntmps163;go_wp2;refine wp_loop_rounds 5 ?_;rw[rounds_succ];go_wp2
 go_quiet (fail)
 go_wp2;rw[rounds_succ];go_wp2
 go_quiet (fail)
 go_wp2;rw[rounds_succ];go_wp2
 go_quiet (fail)
 go_wp2
 go_region_with (go_at_call 205;apply(vN b a _).mono;rintro e c ⟨rfl,g⟩;rw[g])
 all_goals
  go_wp2;go_ret;exact⟨rfl,below_drewN (by go_grown) _⟩
def Fs(a b d g f:Int)(h:(a !=b)=true)(w:WR):
  Cq 163 #[.agg #[vU a,vU d,vU g,vU f],.agg #[vU b,vU d,vU g,vU f]] w fun e c=>e=.rt (vI (dZ a b))/\Bw w c:=by
 go_enter (qz func163),ntmps163;go_wp2;refine wp_loop_rounds 5 ?_;rw[rounds_succ];go_wp2
 go_quiet (fail)
 go_wp2;rw[rounds_succ];go_wp2
 go_quiet (fail)
 go_wp2;rw[rounds_succ];go_wp2
 go_quiet (fail)
 go_wp2;rw[rounds_succ];go_wp2
 go_quiet (fail)
 go_wp2
 go_region_with (go_at_call 205;apply(vN a b _).mono;rintro e c ⟨rfl,i⟩;rw[i])
 all_goals
  go_wp2;go_ret;exact⟨rfl,below_drewN (by go_grown) _⟩
def Aa(a b d c:Int)(w:WR):
  Cq 163 #[.agg #[vU a,vU b,vU d,vU c],.agg #[vU a,vU b,vU d,vU c]] w fun e f=>e=.rt (vI 0)/\Bw w f:=by
 go_enter (qz func163),ntmps163;go_wp2;refine wp_loop_rounds 5 ?_;rw[rounds_succ];go_wp2
 go_quiet (fail)
 go_wp2;rw[rounds_succ];go_wp2
 go_quiet (fail)
 go_wp2;rw[rounds_succ];go_wp2
 go_quiet (fail)
 go_wp2;rw[rounds_succ];go_wp2
 go_quiet (fail)
 go_wp2;rw[rounds_succ];go_wp2;go_ret;exact⟨rfl,below_drewN (((bR.aL lR _).aL sI _)) _⟩
def compare(a b:Nat)(q:a<M)(p:b<M)(w:WR):
  Cq 163 #[wd a,wd b] w fun e o=>e=.rt (vI (dZ a b))/\Bw w o:=by
 have C:=iN a q;have F:=iN b p;have z:=bJ a 0;have D:=bJ a 1;have E:=bJ a 2;have y:=bJ a 3;have v:=bN a 0;have x:=bN a 1;have t:=bN a 2;have u3:=bN a 3;have u:=bJ b 0;have k1:=bJ b 1;have B:=bJ b 2;have s:=bJ b 3;have v0:=bN b 0;have v1:=bN b 1;have A:=bN b 2;have r:=bN b 3;unfold wd;generalize aI a 0=d at*;generalize aI a 1=f at*;generalize aI a 2=g at*;generalize aI a 3=c at*;generalize aI b 0=h at*;generalize aI b 1=i at*;generalize aI b 2=j at*;generalize aI b 3=k at*;by_cases h3:c=k
 .subst h3;by_cases l:g=j
  .subst l;by_cases n:f=i
   .subst n;by_cases m:d=h
    .subst m;have e:dZ a b=0:=by unfold dZ;rw[if_neg oM,if_neg oM]
     rw[e];exact Aa d f g c w
    .have e:dZ a b=dZ d h:=by unfold dZ;split<;>split<;>(try split)<;>(try split)<;>first|rfl|omega
     rw[e];exact Fs d h f g c (by simpa using m) w
   .have e:dZ a b=dZ f i:=by unfold dZ;split<;>split<;>(try split)<;>(try split)<;>first|rfl|omega
    rw[e];exact Fq d f h i g c (by simpa using n) w
  .have e:dZ a b=dZ g j:=by unfold dZ;split<;>split<;>(try split)<;>(try split)<;>first|rfl|omega
   rw[e];exact Fp d f g h i j c (by simpa using l) w
 .have e:dZ a b=dZ c k:=by unfold dZ;split<;>split<;>(try split)<;>(try split)<;>first|rfl|omega
  rw[e];exact Fo d f g c h i j k (by simpa using h3) w
end
end Go.Mark
