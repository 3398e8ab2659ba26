import Derived.Test.YtbephahokhnccaaGreatDoorJ24
set_option linter.all false
set_option maxRecDepth 100000
set_option maxHeartbeats 8000000
namespace Go.Mark
open Go.RowKit Go.Proofs Go.Proofs.Tryz
variable{op:Int}{os:List (bF×SV)}{a b z:Nat}
section
open Go.Shelf
variable [aB]
attribute [local go_sem] wd
def Sv(c:Int)(n:Nat)(a:0<n)(d:n<800000000000)(j:-9223372036854775808<=c)(h:c<=9223372036854775807)(W:WR):
  Cq 13 #[vI c,vI (n:Int)] W fun e f=>∃k:Nat,k<n/\e=.rt (vI (k:Int))/\f=W:=by
 have o:¬(n:Int)=0:=by omega
 by_cases l:c<0
 .obtain⟨m,b⟩:∃m:Nat,-(c+1)=(m:Int):=⟨(-(c+1)).toNat,by omega⟩
  have g:iw (c+1)=c+1:=IntWalk.i64_in _ ⟨by omega,by omega⟩
  have i:IntKind.i64.wrap (-(c+1))=(m:Int):=by rw[IntWalk.i64_in _ ⟨by omega,by omega⟩,b]
  go_enter (qz func13),ntmps13;go_wp2;go_ret;exact⟨m%n,aBE _ a,rfl,rfl⟩
 .obtain⟨m,rfl⟩:∃m:Nat,c=(m:Int):=⟨c.toNat,by omega⟩
  go_enter (qz func13),ntmps13;go_wp2;go_ret;exact⟨m%n,aBE _ a,rfl,rfl⟩
def Rv(s:Lp)(z:s.size<2147483648)(W:WR):
  Cq 23 #[.string s,vB 60,vB 64] W fun e o=>(e=.rt (.bool true)/\Shut (Wo s)\/e=.rt (.bool false))/\o=W:=by
 go_enter (qz func23),ntmps23;go_wp2_with fail;go_loopw [7] (fun j V=>∃k:Nat,j=vI (k:Int)/\k<=s.size/\(∀(n:Nat) y,n<k->s.data[n]?=some y->y.toNat≠60/\y.toNat≠64)/\V=W) (fun j _=>s.size - (Go.RowKit.intOf j).toNat)
 case atStart=>exact⟨0,rfl,aBa _,fun n p d=>absurd d (Nat.not_lt_zero _),rfl⟩
 case round=>
  obtain⟨k,rfl,v,b,rfl⟩:=hrel;by_cases a:k<s.size
  .have c:(k:Int)<(s.size:Int):=by omega
   have h:s.data[k]?=some (s.data[k]'a):=aAN a
   generalize s.data[k]'a=x at h;have l:=fun W=>ai s k x h W
   by_cases t:(x.toNat:Int)=60
   .go_wp2;go_ret;exact⟨.inr rfl,rfl⟩
   .by_cases r:(x.toNat:Int)=64
    .go_wp2;go_ret;exact⟨.inr rfl,rfl⟩
    .have g:Shut (x.toNat≠60/\x.toNat≠64):=by show _/\_;omega
     have u:((x.toNat:Int)==60)=false:=by simpa using t
     have w:((x.toNat:Int)==64)=false:=by simpa using r
     go_wp2_with fail;all_goals
      go_roundw
      case rel=>
       refine⟨k+1,by go_num,by omega,fun n q d f=>?_,trivial⟩;rcases Nat.lt_succ_iff_lt_or_eq.1 d with d|rfl
       .exact b n q d f
       .rw[h] at f;cases f;exact g.out
      case measure=>simp[Go.RowKit.intOf];omega
  .have c:¬(k:Int)<(s.size:Int):=by omega
   go_wp2;go_ret;refine⟨.inl ⟨rfl,fun i y m=>b i y ?_ m⟩,rfl⟩;have:=(aAu.1 m).1;show i<k;have:i<s.size:=this;omega
def Sw(q:Bool)(W:WR):Cq 116 #[.bool q] W fun e a=>e=.rt (wd (if q=true then 1 else 0))/\Bw W a:=by
 cases q;all_goals
  go_enter (qz func116),ntmps116;go_wp2;simp[bodyPost,results,results116,go_sem,aI]
 · exact ba
 · exact ba
def S9(a b c:Nat)(m:a<M)(l:b<M)(W:WR):Cq 66 #[vB 12,wd a,wd b,wd c] W fun e q=>e=.rt (wd (if a<b then 1 else 0))/\Bw W q:=by
 obtain⟨z,k⟩:∃z:Nat,(if a<b then 1 else 0)=z:=⟨_,rfl⟩;rw[k]
 change Cq 66 #[vB 12,.agg (wq a),.agg (wq b),.agg (wq c)] W _;obtain⟨t,A,B,C,D,h,i,n,o,p,w,y,r,g,f⟩:=VL W (.ce (wq a) 41) (.ce (wq b) 41) (.ce (wq c) 41) (.ce wz 41);go_enter (qz func66),ntmps66;go_wp2_with fail;change Calls _ _ _ ((((W.alloc (.ce (wq a) 41)).alloc (.ce (wq b) 41)).alloc (.ce (wq c) 41)).alloc (.ce wz 41)) _;rw[<-h];try rw[p.out]
 try rw[o.out]
 try rw[n.out]
 rw[i.out];have E:A<B:=by have:=i.out;have:=n.out;exact oM
 have s:B<C:=by have:=n.out;have:=o.out;exact oM
 have x:C<D:=by have:=o.out;have:=p.out;exact oM
 clear h;refine(less a b m l _).mono ?_;rintro e u ⟨rfl,d⟩;replace g:=bk d g;replace f:=f.tr (d.mono f.size);clear d;go_wp2_with fail;refine(Sw _ _).mono ?_;rintro e v ⟨rfl,d⟩;replace g:=bk d g;replace f:=f.tr (d.mono f.size);clear d;rw[show (if decide (a<b)=true then 1 else 0)=z by rw[<-k];simp];clear k;go_wp2_with (refine iX bG (bH z) g rfl (fun V h j=>?_))
 exact eH bG h rfl results66 ⟨rfl,j.below (by have:=i.out;exact oM) f⟩
def Uh{c:Nat}(h:∀W,Cq 66 #[vB op,wd a,wd b,wd c] W fun e i=>e=.rt (wd z)/\Bw W i)(W:WR):Cq 37 #[vB op,wd a,wd b,wd c] W fun e i=>e=.rt (wd z)/\Bw W i:=by
 change Cq 37 #[vB op,.agg (wq a),.agg (wq b),.agg (wq c)] W _;obtain⟨r,A,B,C,D,g,j,m,n,o,t,v,p,k,f⟩:=VL W (.ce (wq a) 41) (.ce (wq b) 41) (.ce (wq c) 41) (.ce wz 41);go_enter (qz func37),ntmps37;go_wp2_with fail;change Calls _ _ _ ((((W.alloc (.ce (wq a) 41)).alloc (.ce (wq b) 41)).alloc (.ce (wq c) 41)).alloc (.ce wz 41)) _;rw[<-g];try rw[o.out]
 try rw[n.out]
 try rw[m.out]
 rw[j.out];have w:A<B:=by have:=j.out;have:=m.out;exact oM
 have q:B<C:=by have:=m.out;have:=n.out;exact oM
 have u:C<D:=by have:=n.out;have:=o.out;exact oM
 clear g;refine(h _).mono ?_;rintro e s ⟨rfl,d⟩;replace k:=bk d k;replace f:=f.tr (d.mono f.size);clear d;go_wp2_with (refine iX bG (bH z) k rfl (fun V g l=>?_))
 exact eH bG g rfl results37 ⟨rfl,l.below (by have:=j.out;exact oM) f⟩
def Ub(h:∀W,Cq 66 #[vB op,wd a,wd b,wd 0] W fun e i=>e=.rt (wd z)/\Bw W i)(W:WR):Cq 20 #[vB op,wd a,wd b] W fun e i=>e=.rt (wd z)/\Bw W i:=by
 change Cq 20 #[vB op,.agg (wq a),.agg (wq b)] W _;have m:=Uh h;rw[G7] at m;obtain⟨p,A,B,C,f,j,l,n,r,s,g,d⟩:=ON W (.ce (wq a) 41) (.ce (wq b) 41) (.ce wz 41);go_enter (qz func20),ntmps20;go_wp2_with fail;change Calls _ _ _ (((W.alloc (.ce (wq a) 41)).alloc (.ce (wq b) 41)).alloc (.ce wz 41)) _;rw[<-f];try rw[n.out]
 try rw[l.out]
 rw[j.out];have t:A<B:=by have:=j.out;have:=l.out;exact oM
 have o:B<C:=by have:=l.out;have:=n.out;exact oM
 clear f;refine(m _).mono ?_;rintro e q ⟨rfl,c⟩;replace g:=bk c g;replace d:=d.tr (c.mono d.size);clear c;go_wp2_with (refine iX bG (bH z) g rfl (fun V f k=>?_))
 exact eH bG f rfl results20 ⟨rfl,k.below (by have:=j.out;exact oM) d⟩
def sm(os:List (bF×SV)):Nat:=(os.map (·.1.cn)).sum%M
def Ta(os:List (bF×SV)):sm os<M:=aBE _ (by decide)
def Se{k:Nat}{p:bF×SV}(a:os[k]?=some p):sm (os.take (k+1))=(sm (os.take k)+p.1.cn)%M:=by unfold sm;rw[aDe,a];simp[Nat.add_mod]
def Uc{W:WR}{v:SV}(h:Rl W v os)(hn:os.length<800000000000)(R:∀p∈os,p.1.cn<M):
  Cq 24 #[.sl v.a v.n v.c] W fun e Q=>e=.rt (wd (sm os))/\Bw W Q:=by
 obtain⟨va,vn,vc⟩:=v;obtain⟨P,O⟩:=h;simp only at P O;subst P
 have⟨Y,A,B,x,C,J,o,f,r⟩:=G2 W (.ce wz 41) (.ce wz 41)
 go_enter (qz func24),ntmps24;go_wp2_with fail;change Code.wp _ _ _ _ ((W.alloc (.ce wz 41)).alloc (.ce wz 41));rw[<-x];rw[J.out];rw[C.out]
 have L:Shut (W.heap.size<=A/\A<B):=by have:=C.out;have:=J.out;show _/\_;omega
 clear x C J
 go_loopw [4] (fun j V=>∃k:Nat,j=vI (k:Int)/\k<=os.length/\V.heap[A]?=ob wz 41/\V.heap[B]?=ob (wq (sm (os.take k))) 41/\Bw W V) (fun j _=>os.length - (Go.RowKit.intOf j).toNat)
 case atStart=>exact⟨0,rfl,aBa _,o,by rw[show sm (os.take 0)=0 by simp[sm]];simpa[wq,aI] using f,r⟩
 case round=>
  clear o f r;obtain⟨k,rfl,X,o,f,u⟩:=hrel;by_cases b:k<os.length
  .have l:(k:Int)<(os.length:Int):=by omega
   obtain⟨p,G⟩:∃p,os[k]?=some p:=⟨_,aAG b⟩
   obtain⟨g,rfl,U,z⟩:=O.resolve_left (by intro e;rw[e] at b;simp at b)
   have y:=R p (aBj G);have c:=Se G;have m:=Ta (os.take k)
   generalize sm (os.take k)=w at f c m
   have q:=z k p G;rw[aAM] at q
   have s:=US c;clear c;go_wp2_with fail;refine sk (S:=fun V=>V.heap[A]?=ob wz 41/\V.heap[B]?=ob (wq w) 41/\Bw W V) 7 kR ⟨o,f,u.drew⟩ fun a=>?_
   refine tE 0 12 (.agg (wq w)) (fun V n=>?_) a ?_
   .have S:=n.2.1;clear n a;exact OQ bG S rfl
   refine tF 1 a ?_;refine tF 2 a ?_;refine tF 3 a ?_;refine tF 4 a ?_
   refine tE 5 17 (wd p.1.cn) (fun V n=>?_) a ?_
   .have t:=cI.below q n.2.2;have c1:=t 1 _ rfl;have c2:=t 2 _ rfl;have c3:=t 3 _ rfl;have c4:=t 4 _ rfl
    clear n a t;go_simp
   refine rB 6 fun K D=>?_;go_simp;apply(Ub (fun W=>N5 w p.1.cn 0 m y W) _).mono;rintro e Z ⟨rfl,d⟩;go_wp2_with fail;refine D.out _ _ ⟨bk d a.1,bk d a.2.1,a.2.2.tr (d.mono a.2.2.size)⟩ fun a=>?_
   refine rC fun K D=>?_;rw[if_pos rI];refine OL bG (bH ((w+p.1.cn)%M)) a.2.1 rfl fun T N i=>D.out _ _ ?_;refine dk kR ?_ _
   have I:=i.blk a.1 (by have:=L.out;omega);have H:Bw W T:=i.below (by have:=L.out;omega) a.2.2
   go_wp2_with fail;go_roundw
   case rel=>exact⟨k+1,by go_num,by omega,I,by rw[s.out];exact N,H⟩
   case measure=>simp[Go.RowKit.intOf];omega
  .have l:¬(k:Int)<(os.length:Int):=by omega
   have F:k=os.length:=by omega
   rw[F,aCa] at f;go_wp2_with (first|(refine pG bG f rfl ?_)|(refine iX bG (bH (sm os)) o rfl (fun V x E=>?_)))
   exact eH bG x rfl results24 ⟨rfl,E.below (by have:=L.out;omega) u⟩
end
end Go.Mark
