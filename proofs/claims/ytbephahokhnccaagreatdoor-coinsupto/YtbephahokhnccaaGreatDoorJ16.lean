import Derived.Test.YtbephahokhnccaaGreatDoorJ15
set_option linter.all false
set_option maxRecDepth 100000
set_option maxHeartbeats 8000000
namespace Go.Mark
open Go.RowKit Go.Proofs Go.Proofs.Tryz
variable{c:Ff}{x:Nat}
section
open Go.Shelf
variable [aB]
attribute [local go_sem] wd
def la(a k:Nat):Nat:=(aI a k).toNat
def qR(a k:Nat):((la a k:Nat):Int)=aI a k:=aBG (bJ a k)
def RN(a k:Nat):la a k<18446744073709551616:=by have:=bN a k;have:=qR a k;omega
def xv(a:Nat)(e:a<M):vl (la a) 4=a:=by have b:=qR a 0;have c:=qR a 1;have f:=qR a 2;have d:=qR a 3;unfold M at e;simp only[aI] at b c f d;simp only[vl];omega
def gp{q:Nat}{v:Nat}(a:q<c.size):∀n,q<n->vl (pv (c.setIfInBounds q (.int .u64 (v:Int)))) n+pv c q*18446744073709551616 ^ q=vl (pv c) n+v*18446744073709551616 ^ q:=by
 intro n;induction n with
 |zero=>intro h;omega
 |succ n d=>
  intro h;have e:=oF c q n (v:Int) a;simp only[vl];by_cases b:q=n
  .subst b;rw[if_pos rfl,aBM] at e;rw[e,sD (f:=pv (c.setIfInBounds q (vU (v:Int)))) (g:=pv c) q fun j f=>by rw[oF c q j (v:Int) a,if_neg oM]];omega
  .rw[if_neg b] at e;rw[e];have:=d oM;omega
def VZ{V d s c a y b P L:Nat}(f:a*18446744073709551616+c=x*y+s+b)(i:d+s*P=V+c*P)(h:V+b*P=L):d+a*(P*18446744073709551616)=L+x*y*P:=by
 have g:(a*18446744073709551616+c)*P=(x*y+s+b)*P:=by rw[f]
 rw[aCf,aCf,aCf] at g;have e:a*(P*18446744073709551616)=a*18446744073709551616*P:=by rw[aCB P,aCM]
 rw[e];omega
def gq(a b:Nat)(G:b<M)(O:a<M)(W:WR):Cq 164 #[wd a,wd b] W fun e w'=>(∃c,UC 8 c/\Shut (vl (pv c) 8=a*b)/\e=.returned (.agg c))/\Bw W w':=by
 change Cq 164 #[.agg (wq a),.agg (wq b)] W _;obtain⟨R,A,B,C,D,v,w,x,y,T,hA,hB,hC,hD,Z⟩:=VL W (.cells (wq a) 41) (.cells (wq b) 41) (.cells #[vU 0,vU 0,vU 0,vU 0,vU 0,vU 0,vU 0,vU 0] 254) (.cells #[vU 0,vU 0,vU 0,vU 0,vU 0,vU 0,vU 0,vU 0] 254);go_enter (qz func164),Tryz.ntmps164;go_wp2_with fail;change Code.wp _ _ _ _ ((((W.alloc (.cells (wq a) 41)).alloc (.cells (wq b) 41)).alloc (.cells #[vU 0,vU 0,vU 0,vU 0,vU 0,vU 0,vU 0,vU 0] 254)).alloc (.cells #[vU 0,vU 0,vU 0,vU 0,vU 0,vU 0,vU 0,vU 0] 254));rw[<-v];try rw[T.out]
 try rw[y.out]
 try rw[x.out]
 rw[w.out];have lB:A<B:=by have:=w.out;have:=x.out;exact oM
 have lC:B<C:=by have:=x.out;have:=y.out;exact oM
 have lD:C<D:=by have:=y.out;have:=T.out;exact oM
 clear v;have uz:UC 8 #[vU 0,vU 0,vU 0,vU 0,vU 0,vU 0,vU 0,vU 0]:=gV 8;have I:∀j,pv #[vU 0,vU 0,vU 0,vU 0,vU 0,vU 0,vU 0,vU 0] j=0:=fun j=>by
  by_cases hj:j<8
  .have:j=0\/j=1\/j=2\/j=3\/j=4\/j=5\/j=6\/j=7:=oM
   rcases this with rfl|rfl|rfl|rfl|rfl|rfl|rfl|rfl<;>rfl
  .unfold pv;rw[aBh (by simp;exact oM)]
 go_loopw [12] (fun i V=>∃(k:Nat) (c:Ff),i=vI (k:Int)/\k<=4/\V.heap[D]?=ob c 254/\UC 8 c/\Shut (vl (pv c) 8=vl (la a) k*b/\∀j,k+4<=j->pv c j=0)/\Bt D R V) (fun i _=>4 - (Go.RowKit.intOf i).toNat)
 case atStart=>exact⟨0,_,rfl,dC,hD,uz,⟨by rw[sD (g:=fun _=>0) 8 fun j _=>I j];simp[vl],fun j _=>I j⟩,Bt.refl _ _⟩
 case round=>
  obtain⟨k,c,rfl,hk,h,g,d,f⟩:=hrel;have N:=f.blk hB oM;obtain⟨b0,b1,b2,b3⟩:=q4 N;have t:=aG h;have z:=aG N;clear I;by_cases E:k<4
  .have ix:=rm a k E;rw[<-qR a k] at ix;have X:(k:Int)<4:=oM
   have a9:IntKind.i64.wrap ((k:Int)+1)=((k+1:Nat):Int):=by rw[IntWalk.i64_in _ ⟨oM,oM⟩];exact oM
   have a8:IntKind.i64.wrap ((k:Int)+4)=((k+4:Nat):Int):=by rw[IntWalk.i64_in _ ⟨oM,oM⟩];exact oM
   go_wp2_with fail;go_loopw [17,8] (fun i b' V=>∃(j l:Nat) (c:Ff),i=vI (j:Int)/\b'=vU (l:Int)/\j<=4/\l<18446744073709551616/\V.heap[D]?=ob c 254/\UC 8 c/\Shut (vl (pv c) 8+l*18446744073709551616 ^ (k+j)=vl (la a) k*b+la a k*18446744073709551616 ^ k*vl (la b) j/\∀j,k+4<=j->pv c j=0)/\Bt D R V) (fun i _ _=>4 - (Go.RowKit.intOf i).toNat)
   case atStart=>exact⟨0,0,_,rfl,rfl,dC,dC,h,g,⟨by rw[show vl (la b) 0=0 from rfl,aCy,Nat.mul_zero];exact congrArg (· +0) d.out.1,d.out.2⟩,f⟩
   case round=>
    clear h g f b0 b1 b2 b3 N t z d;obtain⟨j,l,c,rfl,rfl,hj,F,h,g,d,f⟩:=hrel;have t:=aG h;by_cases L:j<4
    .have iy:=rm b j L;rw[<-qR b j] at iy;have Q:(j:Int)<4:=oM
     have K:=aJ h (k+j);have f0:=aQ h (k+j);rw[(g.pv (show k+j<8 by exact oM)).1] at K;have a7:IntKind.i64.wrap ((j:Int)+1)=((j+1:Nat):Int):=by rw[IntWalk.i64_in _ ⟨oM,oM⟩];exact oM
     have a6:IntKind.i64.wrap ((k:Int)+(j:Int))=((k+j:Nat):Int):=by rw[IntWalk.i64_in _ ⟨oM,oM⟩];exact oM
     have l8:((k+j:Nat):Int)<8:=oM
     have H:=s9 (la a k) (la b j) (pv c (k+j)) l (RN _ _) (RN _ _) (g.pv (show k+j<8 by exact oM)).2 F;obtain⟨u,n⟩:∃u,(la a k*la b j+pv c (k+j)+l) / 18446744073709551616=u:=⟨_,rfl⟩;obtain⟨r,m⟩:∃r,(la a k*la b j+pv c (k+j)+l) % 18446744073709551616=r:=⟨_,rfl⟩;simp only[n,m] at H;have e1:Shut (u*18446744073709551616+r=la a k*la b j+pv c (k+j)+l):=by show _=_;rw[<-n,<-m];exact Nat.div_add_mod' _ _
     have S:r<18446744073709551616:=by rw[<-m];exact aBE _ dC
     have p:u<18446744073709551616:=by rw[<-n];apply Nat.div_lt_of_lt_mul;have p1:=RN a k;have p2:=RN b j;have p3:=(g.pv (show k+j<8 by exact oM)).2;have p4:la a k*la b j<=18446744073709551615*18446744073709551615:=aCG oM oM;exact oM
     clear n m;go_wp2_with fail;refine(H _).mono ?_;rintro e w1 ⟨rfl,rfl⟩;clear H;go_wp2;go_roundw
     case rel=>
       refine⟨j+1,u,_,rfl,rfl,oM,p,aO h,g.set _ (by unfold U;exact oM),⟨?_,fun q Y=>?_⟩,f.set _ _⟩
       .have J:=gp (c:=c) (q:=k+j) (v:=r) (by rw[g.1];exact oM) 8 oM;have P:=VZ e1.out J d.out.1;rw[show k+(j+1)=k+j+1 by exact oM,aCj,P];simp only[vl,Nat.pow_add,Nat.mul_add,aBY,aCM,aCB,Nat.mul_left_comm]
       .rw[oF c _ _ _ (by rw[g.1];exact oM),if_neg oM];exact d.out.2 q Y
     case measure=>simp[Go.RowKit.intOf];exact oM
    .obtain rfl:j=4:=oM
     have K:=aJ h (k+4);have f0:=aQ h (k+4);rw[(g.pv (show k+4<8 by exact oM)).1] at K;have l8:((k+4:Nat):Int)<8:=oM
     go_wp2;go_roundw
     case rel=>
       refine⟨k+1,_,rfl,oM,aO h,g.set _ (by unfold U;exact oM),⟨?_,fun q Y=>?_⟩,f.set _ _⟩
       .have J:=gp (c:=c) (q:=k+4) (v:=l) (by rw[g.1];exact oM) 8 oM;have P:=d.out.1;rw[d.out.2 (k+4) lR] at J;rw[xv b G] at P;show _=(vl (la a) k+la a k*18446744073709551616 ^ k)*b;rw[aCf];exact oM
       .rw[oF c _ _ _ (by rw[g.1];exact oM),if_neg oM];exact d.out.2 q oM
     case measure=>simp[Go.RowKit.intOf];exact oM
  .obtain rfl:k=4:=oM
   have h2:=f.blk hC oM;have o:=d.out.1;rw[xv a O] at o;go_wp2_with (first| (refine pG jC h g.1 ?_)| (refine iX jC g h2 rfl (fun V v s=>?_)))
   exact eH jC v g.1 Tryz.results164 ⟨⟨_,g,o,rfl⟩,s.below (by have:=w.out;exact oM) (f.below (by have:=w.out;exact oM) Z)⟩
def Ci{d b a c:Nat}(k:d<18446744073709551616)(j:b<18446744073709551616)(i:a<18446744073709551616)(h3:c<18446744073709551616)(l:x=d+b*18446744073709551616 ^ 1+a*18446744073709551616 ^ 2+c*18446744073709551616 ^ 3):
  wd x=.agg #[.int .u64 (d:Int),.int .u64 (b:Int),.int .u64 (a:Int),.int .u64 (c:Int)]:=by
 have e:aI x 0=(d:Int):=by simp only[aI];omega
 have f:aI x 1=(b:Int):=by simp only[aI];omega
 have h:aI x 2=(a:Int):=by simp only[aI];omega
 have g:aI x 3=(c:Int):=by simp only[aI];omega
 unfold wd;rw[e,f,h,g]
def Cj(f:Nat->Nat)(h:∀j,j<4->f j<18446744073709551616):vl f 8 % M=f 0+f 1*18446744073709551616 ^ 1+f 2*18446744073709551616 ^ 2+f 3*18446744073709551616 ^ 3:=by have c:=h 0 dC;have b:=h 1 dC;have a:=h 2 dC;have h3:=h 3 dC;simp only[vl,M];omega
def M5(h:UC 8 c)(W:WR):Cq 165 #[.agg c] W fun e p=>e=.rt (wd (vl (pv c) 8 % M))/\Bw W p:=by have m:=Cj (pv c) fun j t=>(h.pv (show j<8 by omega)).2;have n:=h.pv (show 0<8 by omega);have l:=h.pv (show 1<8 by omega);have p2:=h.pv (show 2<8 by omega);have p3:=h.pv (show 3<8 by omega);rw[Ci n.2 l.2 p2.2 p3.2 m];clear m;obtain⟨v0,v1,b,a,v4,f,v6,d,r,s,q,u3,rfl⟩:=h.G1;have g:v0=(pv #[vU v0,vU v1,vU b,vU a,vU v4,vU f,vU v6,vU d] 0:Int):=(aBG r.1).symm;have i:v1=(pv #[vU v0,vU v1,vU b,vU a,vU v4,vU f,vU v6,vU d] 1:Int):=(aBG s.1).symm;have o:b=(pv #[vU v0,vU v1,vU b,vU a,vU v4,vU f,vU v6,vU d] 2:Int):=(aBG q.1).symm;have k:a=(pv #[vU v0,vU v1,vU b,vU a,vU v4,vU f,vU v6,vU d] 3:Int):=(aBG u3.1).symm;rw[<-g,<-i,<-o,<-k];clear g i o k n l p2 p3;go_enter (qz func165),ntmps165;go_wp2;simp[bodyPost,results,results165,go_sem];exact (ba).tr ((ba).mono sI)
def M6(a b:Nat)(p:a<M)(o:b<M)(W:WR):Cq 107 #[wd a,wd b] W fun e s=>e=.returned (wd (a*b % M))/\Bw W s:=by
 change Cq 107 #[.agg (wq a),.agg (wq b)] W _;obtain⟨w,A,B,C,k,l,q,r,i,j,g,f⟩:=ON W (.cells (wq a) 41) (.cells (wq b) 41) (.cells wz 41);go_enter (qz func107),Tryz.ntmps107;go_wp2_with fail;change Calls _ _ _ (((W.alloc (.cells (wq a) 41)).alloc (.cells (wq b) 41)).alloc (.cells wz 41)) _;rw[<-k];try rw[r.out]
 try rw[q.out]
 rw[l.out];have x:A<B:=by have:=l.out;have:=q.out;exact oM
 have v:B<C:=by have:=q.out;have:=r.out;exact oM
 clear k;refine(gq a b o p _).mono ?_;rintro e t ⟨⟨c,u,m,rfl⟩,d⟩;replace i:=bk d i;replace j:=bk d j;replace g:=bk d g;replace f:=f.trans (d.mono f.size);clear d;go_wp2_with fail;refine(M5 u _).mono ?_;rintro e t ⟨rfl,d⟩;replace i:=bk d i;replace j:=bk d j;replace g:=bk d g;replace f:=f.trans (d.mono f.size);clear d;have h:=m.out;rw[h];go_wp2_with (refine iX bG (bH (a*b % M)) g rfl (fun V k n=>?_))
 exact eH bG k rfl Tryz.results107 ⟨rfl,n.below (by have:=l.out;exact oM) f⟩
end
end Go.Mark
