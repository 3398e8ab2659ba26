import Derived.Test.YtbephahokhnccaaGreatDoorJ17
set_option linter.all false
set_option maxRecDepth 100000
set_option maxHeartbeats 8000000
namespace Go.Mark
open Go.RowKit Go.Proofs Go.Proofs.Tryz
section
open Go.Shelf
variable [aB]
attribute [local go_sem] wd
def Hc(a b:Nat)(W:WR):Cq 119 #[wd a,wd b] W fun e z=>AO e/\Bw W z:=by
 change Cq 119 #[.agg (wq a),.agg (wq b)] W _;obtain⟨I,A,B,C,n,o,s,x,L,M,y,E⟩:=ON W (.ce (wq a) 41) (.ce (wq b) 41) (.ce wz 41);go_enter (qz func119),ntmps119;go_wp2_with fail;change Code.wp _ _ _ _ (((W.alloc (.ce (wq a) 41)).alloc (.ce (wq b) 41)).alloc (.ce wz 41));rw[<-n];try rw[x.out]
 try rw[s.out]
 rw[o.out];have R:A<B:=by have:=o.out;have:=s.out;exact oM
 have N:B<C:=by have:=s.out;have:=x.out;exact oM
 clear n;have P:W.heap.size<=A:=by have:=o.out;exact oM
 go_loopw [6] (fun i V=>∃(k:Nat) (c:Ff),i=vI (k:Int)/\k<=4/\V.heap[A]?=ob c 41/\UC 4 c/\Bt A I V) (fun i _=>4 - (Go.RowKit.intOf i).toNat)
 case atStart=>exact⟨0,_,rfl,dC,L,bH a,Bt.refl _ _⟩
 case round=>
  obtain⟨k,c,rfl,O,h,g,f⟩:=hrel;have v:=f.blk M oM;have H:=aG h;have F:=aG v;by_cases j:k<4
  .have q:=(g.pv j).1;have p2:=((bH b).pv j).1;have u:(k:Int)<4:=oM
   have Q:IntKind.i64.wrap ((k:Int)+1)=((k+1:Nat):Int):=by rw[IntWalk.i64_in _ ⟨oM,oM⟩];exact oM
   go_wp2_with fail;refine sk (S:=fun V=>V.heap[A]?=ob c 41/\V.heap[B]?=ob (wq b) 41) 8 kR ⟨h,v⟩ fun d=>?_;refine tF 0 d ?_;refine tF 1 d ?_;refine tE 2 11 (vU (pv c k:Int)) (fun V l=>?_) d ?_
   .have p:=aJ l.1 k;rw[q] at p;clear l d;go_simp
   refine tF 3 d ?_;refine tF 4 d ?_;refine tE 5 14 (vU (pv (wq b) k:Int)) (fun V l=>?_) d ?_
   .have p:=aJ l.2 k;rw[p2] at p;clear l d;go_simp
   refine tF 6 d ?_;refine tF 7 d ?_;have G:=aQ (w:=wr.drew) h k;have w:=aJ (w:=wr.drew) h k;rw[q] at w;refine rC fun K J=>?_;go_simp;refine J.out _ _ ?_;refine dk kR ?_ _;have r:=aO (w:=wr.drew) (i:=k) (v:=(vU (bits .and .u64 (pv c k:Int) (pv (wq b) k:Int)))) h;have t:=f.drew.set k (vU (bits .and .u64 (pv c k:Int) (pv (wq b) k:Int)));clear q p2 w G;go_wp2;go_roundw
   case rel=>exact⟨k+1,_,rfl,oM,r,g.set k (bT _),t⟩
   case measure=>simp[Go.RowKit.intOf];exact oM
  .obtain rfl:k=4:=oM
   have D:=f.blk y oM;go_wp2_with (first| (refine pG bG h g.1 ?_)| (refine iX bG g D rfl (fun V n m=>?_)))
   exact eH bG n g.1 results119 ⟨.of g,m.below oM (f.below oM E)⟩
def Ph(a b:Nat)(W:WR):Cq 120 #[wd a,wd b] W fun e z=>AO e/\Bw W z:=by
 change Cq 120 #[.agg (wq a),.agg (wq b)] W _;obtain⟨I,A,B,C,n,o,s,x,L,M,y,E⟩:=ON W (.ce (wq a) 41) (.ce (wq b) 41) (.ce wz 41);go_enter (qz func120),ntmps120;go_wp2_with fail;change Code.wp _ _ _ _ (((W.alloc (.ce (wq a) 41)).alloc (.ce (wq b) 41)).alloc (.ce wz 41));rw[<-n];try rw[x.out]
 try rw[s.out]
 rw[o.out];have R:A<B:=by have:=o.out;have:=s.out;exact oM
 have N:B<C:=by have:=s.out;have:=x.out;exact oM
 clear n;have P:W.heap.size<=A:=by have:=o.out;exact oM
 go_loopw [6] (fun i V=>∃(k:Nat) (c:Ff),i=vI (k:Int)/\k<=4/\V.heap[A]?=ob c 41/\UC 4 c/\Bt A I V) (fun i _=>4 - (Go.RowKit.intOf i).toNat)
 case atStart=>exact⟨0,_,rfl,dC,L,bH a,Bt.refl _ _⟩
 case round=>
  obtain⟨k,c,rfl,O,h,g,f⟩:=hrel;have v:=f.blk M oM;have H:=aG h;have F:=aG v;by_cases j:k<4
  .have q:=(g.pv j).1;have p2:=((bH b).pv j).1;have u:(k:Int)<4:=oM
   have Q:IntKind.i64.wrap ((k:Int)+1)=((k+1:Nat):Int):=by rw[IntWalk.i64_in _ ⟨oM,oM⟩];exact oM
   go_wp2_with fail;refine sk (S:=fun V=>V.heap[A]?=ob c 41/\V.heap[B]?=ob (wq b) 41) 8 kR ⟨h,v⟩ fun d=>?_;refine tF 0 d ?_;refine tF 1 d ?_;refine tE 2 11 (vU (pv c k:Int)) (fun V l=>?_) d ?_
   .have p:=aJ l.1 k;rw[q] at p;clear l d;go_simp
   refine tF 3 d ?_;refine tF 4 d ?_;refine tE 5 14 (vU (pv (wq b) k:Int)) (fun V l=>?_) d ?_
   .have p:=aJ l.2 k;rw[p2] at p;clear l d;go_simp
   refine tF 6 d ?_;refine tF 7 d ?_;have G:=aQ (w:=wr.drew) h k;have w:=aJ (w:=wr.drew) h k;rw[q] at w;refine rC fun K J=>?_;go_simp;refine J.out _ _ ?_;refine dk kR ?_ _;have r:=aO (w:=wr.drew) (i:=k) (v:=(vU (bits .or .u64 (pv c k:Int) (pv (wq b) k:Int)))) h;have t:=f.drew.set k (vU (bits .or .u64 (pv c k:Int) (pv (wq b) k:Int)));clear q p2 w G;go_wp2;go_roundw
   case rel=>exact⟨k+1,_,rfl,oM,r,g.set k (bT _),t⟩
   case measure=>simp[Go.RowKit.intOf];exact oM
  .obtain rfl:k=4:=oM
   have D:=f.blk y oM;go_wp2_with (first| (refine pG bG h g.1 ?_)| (refine iX bG g D rfl (fun V n m=>?_)))
   exact eH bG n g.1 results120 ⟨.of g,m.below oM (f.below oM E)⟩
def Mg(a b:Nat)(W:WR):Cq 121 #[wd a,wd b] W fun e z=>AO e/\Bw W z:=by
 change Cq 121 #[.agg (wq a),.agg (wq b)] W _;obtain⟨I,A,B,C,n,o,s,x,L,M,y,E⟩:=ON W (.ce (wq a) 41) (.ce (wq b) 41) (.ce wz 41);go_enter (qz func121),ntmps121;go_wp2_with fail;change Code.wp _ _ _ _ (((W.alloc (.ce (wq a) 41)).alloc (.ce (wq b) 41)).alloc (.ce wz 41));rw[<-n];try rw[x.out]
 try rw[s.out]
 rw[o.out];have R:A<B:=by have:=o.out;have:=s.out;exact oM
 have N:B<C:=by have:=s.out;have:=x.out;exact oM
 clear n;have P:W.heap.size<=A:=by have:=o.out;exact oM
 go_loopw [6] (fun i V=>∃(k:Nat) (c:Ff),i=vI (k:Int)/\k<=4/\V.heap[A]?=ob c 41/\UC 4 c/\Bt A I V) (fun i _=>4 - (Go.RowKit.intOf i).toNat)
 case atStart=>exact⟨0,_,rfl,dC,L,bH a,Bt.refl _ _⟩
 case round=>
  obtain⟨k,c,rfl,O,h,g,f⟩:=hrel;have v:=f.blk M oM;have H:=aG h;have F:=aG v;by_cases j:k<4
  .have q:=(g.pv j).1;have p2:=((bH b).pv j).1;have u:(k:Int)<4:=oM
   have Q:IntKind.i64.wrap ((k:Int)+1)=((k+1:Nat):Int):=by rw[IntWalk.i64_in _ ⟨oM,oM⟩];exact oM
   go_wp2_with fail;refine sk (S:=fun V=>V.heap[A]?=ob c 41/\V.heap[B]?=ob (wq b) 41) 8 kR ⟨h,v⟩ fun d=>?_;refine tF 0 d ?_;refine tF 1 d ?_;refine tE 2 11 (vU (pv c k:Int)) (fun V l=>?_) d ?_
   .have p:=aJ l.1 k;rw[q] at p;clear l d;go_simp
   refine tF 3 d ?_;refine tF 4 d ?_;refine tE 5 14 (vU (pv (wq b) k:Int)) (fun V l=>?_) d ?_
   .have p:=aJ l.2 k;rw[p2] at p;clear l d;go_simp
   refine tF 6 d ?_;refine tF 7 d ?_;have G:=aQ (w:=wr.drew) h k;have w:=aJ (w:=wr.drew) h k;rw[q] at w;refine rC fun K J=>?_;go_simp;refine J.out _ _ ?_;refine dk kR ?_ _;have r:=aO (w:=wr.drew) (i:=k) (v:=(vU (bits .xor .u64 (pv c k:Int) (pv (wq b) k:Int)))) h;have t:=f.drew.set k (vU (bits .xor .u64 (pv c k:Int) (pv (wq b) k:Int)));clear q p2 w G;go_wp2;go_roundw
   case rel=>exact⟨k+1,_,rfl,oM,r,g.set k (bT _),t⟩
   case measure=>simp[Go.RowKit.intOf];exact oM
  .obtain rfl:k=4:=oM
   have D:=f.blk y oM;go_wp2_with (first| (refine pG bG h g.1 ?_)| (refine iX bG g D rfl (fun V n m=>?_)))
   exact eH bG n g.1 results121 ⟨.of g,m.below oM (f.below oM E)⟩
def Hd(a:Nat)(W:WR):Cq 122 #[wd a] W fun e o=>AO e/\Bw W o:=by
 change Cq 122 #[.agg (wq a)] W _;obtain⟨s,A,B,h,l,n,u,v,q⟩:=G2 W (.ce (wq a) 41) (.ce wz 41);go_enter (qz func122),ntmps122;go_wp2_with fail;change Code.wp _ _ _ _ ((W.alloc (.ce (wq a) 41)).alloc (.ce wz 41));rw[<-h];try rw[n.out]
 rw[l.out];have C:A<B:=by have:=l.out;have:=n.out;exact oM
 clear h;have y:W.heap.size<=A:=by have:=l.out;exact oM
 go_loopw [4] (fun i V=>∃(k:Nat) (c:Ff),i=vI (k:Int)/\k<=4/\V.heap[A]?=ob c 41/\UC 4 c/\Bt A s V) (fun i _=>4 - (Go.RowKit.intOf i).toNat)
 case atStart=>exact⟨0,_,rfl,dC,u,bH a,Bt.refl _ _⟩
 case round=>
  obtain⟨k,c,rfl,x,g,d,b⟩:=hrel;have r:=aG g;by_cases j:k<4
  .have t:=aJ g k;have w:=aQ g k;rw[(d.pv j).1] at t;have m:(k:Int)<4:=oM
   have z:IntKind.i64.wrap ((k:Int)+1)=((k+1:Nat):Int):=by rw[IntWalk.i64_in _ ⟨oM,oM⟩];exact oM
   go_wp2;go_roundw
   case rel=>exact⟨k+1,_,rfl,oM,aO g,d.set k (bT _),b.set _ _⟩
   case measure=>simp[Go.RowKit.intOf];exact oM
  .obtain rfl:k=4:=oM
   have p:=b.blk v oM;go_wp2_with (first| (refine pG bG g d.1 ?_)| (refine iX bG d p rfl (fun V h f=>?_)))
   exact eH bG h d.1 results122 ⟨.of d,f.below oM (b.below oM q)⟩
def ry(n:Nat)(h:n<18446744073709551616):wd n=.agg #[.int .u64 (n:Int),.int .u64 0,.int .u64 0,.int .u64 0]/\n<M/\aI n 0=(n:Int):=by
 have a:aI n 0=(n:Int):=by simp[aI];omega
 have b:aI n 1=0:=by simp[aI];omega
 have d:aI n 2=0:=by simp[aI];omega
 have c:aI n 3=0:=by simp[aI];omega
 refine⟨by unfold wd;rw[a,b,d,c],aAy h dC,a⟩
def rn:UC 4 wz:=gV 4
def Mh{v:Int}(h:U v):UC 4 #[vU v,vU 0,vU 0,vU 0]:=(gV 4).set 0 h
def He(a n:Nat)(l:n<256)(W:WR):Cq 172 #[wd a,vI (n:Int)] W fun e c=>Mf e/\Bw W c:=by
 obtain⟨q,b⟩:∃q:Nat,q=n / 64:=⟨_,rfl⟩;obtain⟨r,f⟩:∃r:Nat,r=n % 64:=⟨_,rfl⟩;have i:(n:Int).tdiv 64=(q:Int):=by rw[aBk oM];omega
 have j:iw (q:Int)=(q:Int):=iW;have k:(n:Int).tmod 64=(r:Int):=by rw[aBR oM];omega
 have h:iw (r:Int)=(r:Int):=iW;have d:=aJ (aM W (.ce (wq a) 41)) q;rw[((bH a).pv (show q<4 by omega)).1] at d;have g:(q:Int)<4:=oM
 clear b f;go_enter (qz func172),ntmps172;go_wp2;go_ret;exact⟨⟨_,rfl⟩,ba⟩
def Hf(n:Nat)(v:n<256)(W:WR):Cq 173 #[vI (n:Int)] W fun e m=>AO e/\Bw W m:=by
 obtain⟨q,w,o⟩:∃q:Int,(n:Int).tdiv 64=q/\(q=0\/q=1\/q=2\/q=3):=⟨(n:Int) / 64,aBk oM,oM⟩;obtain⟨r,s⟩:∃r:Nat,r=n % 64:=⟨_,rfl⟩;have t:(n:Int).tmod 64=(r:Int):=by rw[aBR oM];omega
 have u:iw (r:Int)=(r:Int):=iW;have l:r<64:=oM
 obtain⟨z,p⟩:∃z,IntKind.u64.wrap (2 ^ r)=z:=⟨_,rfl⟩;have g:U z:=p▸bT _;clear s;have h:=(ry 1 dC).1;simp only[Int.natCast_one] at h;rcases o with rfl|rfl|rfl|rfl
 .have⟨x,j,ex⟩:=(show UC 4 #[vU z,vU 0,vU 0,vU 0] from rn.set 0 g).wd;have d:=sub x 1 j (ry 1 dC).2.1;rw[<-ex,h] at d;clear ex h;go_enter (qz func173),ntmps173;go_wp2_with fail;apply(d _).mono;rintro e i ⟨rfl,a⟩;have c:=(a.block W.heap.size sQ0).tr (aT (aM W _));have f:Bw W i:=((ba).tr ((ba).mono sI)).tr (a.mono sQ0);clear d;go_wp2_with (refine iX bG (bH _) c rfl (fun V k b=>?_))
  exact eH bG k rfl results173 ⟨.of (bH _),b.below lR f⟩
 .have⟨x,j,ex⟩:=(show UC 4 #[vU 0,vU z,vU 0,vU 0] from rn.set 1 g).wd;have d:=sub x 1 j (ry 1 dC).2.1;rw[<-ex,h] at d;clear ex h;go_enter (qz func173),ntmps173;go_wp2_with fail;apply(d _).mono;rintro e i ⟨rfl,a⟩;have c:=(a.block W.heap.size sQ0).tr (aT (aM W _));have f:Bw W i:=((ba).tr ((ba).mono sI)).tr (a.mono sQ0);clear d;go_wp2_with (refine iX bG (bH _) c rfl (fun V k b=>?_))
  exact eH bG k rfl results173 ⟨.of (bH _),b.below lR f⟩
 .have⟨x,j,ex⟩:=(show UC 4 #[vU 0,vU 0,vU z,vU 0] from rn.set 2 g).wd;have d:=sub x 1 j (ry 1 dC).2.1;rw[<-ex,h] at d;clear ex h;go_enter (qz func173),ntmps173;go_wp2_with fail;apply(d _).mono;rintro e i ⟨rfl,a⟩;have c:=(a.block W.heap.size sQ0).tr (aT (aM W _));have f:Bw W i:=((ba).tr ((ba).mono sI)).tr (a.mono sQ0);clear d;go_wp2_with (refine iX bG (bH _) c rfl (fun V k b=>?_))
  exact eH bG k rfl results173 ⟨.of (bH _),b.below lR f⟩
 .have⟨x,j,ex⟩:=(show UC 4 #[vU 0,vU 0,vU 0,vU z] from rn.set 3 g).wd;have d:=sub x 1 j (ry 1 dC).2.1;rw[<-ex,h] at d;clear ex h;go_enter (qz func173),ntmps173;go_wp2_with fail;apply(d _).mono;rintro e i ⟨rfl,a⟩;have c:=(a.block W.heap.size sQ0).tr (aT (aM W _));have f:Bw W i:=((ba).tr ((ba).mono sI)).tr (a.mono sQ0);clear d;go_wp2_with (refine iX bG (bH _) c rfl (fun V k b=>?_))
  exact eH bG k rfl results173 ⟨.of (bH _),b.below lR f⟩
def Hg(a b:Nat)(H:a<M)(W:WR):Cq 123 #[wd a,wd b] W fun e w=>AO e/\Bw W w:=by
 change Cq 123 #[.agg (wq a),.agg (wq b)] W _;have p:=less a 32 H dC;rw[(ry 32 dC).1] at p;obtain⟨K,A,B,C,h,l,s,u,m,n,k,j⟩:=ON W (.ce (wq a) 41) (.ce (wq b) 41) (.ce wz 41);go_enter (qz func123),ntmps123;go_wp2_with fail;change Calls _ _ _ (((W.alloc (.ce (wq a) 41)).alloc (.ce (wq b) 41)).alloc (.ce wz 41)) _;rw[<-h];try rw[u.out]
 try rw[s.out]
 rw[l.out];have T:A<B:=by have:=l.out;have:=s.out;exact oM
 have J:B<C:=by have:=s.out;have:=u.out;exact oM
 clear h;refine(p _).mono ?_;rintro e L ⟨rfl,c⟩;clear p;replace m:=bk c m;replace n:=bk c n;replace k:=bk c k;replace j:=j.tr (c.mono j.size);clear c;have y:=aG m;have x:=aG n;by_cases d:a<32
 .have v:decide (a<32)=true:=by simpa using d
  obtain⟨f,i⟩:∃f:Nat,a+f=31:=⟨31 - a,oM⟩;obtain⟨q,z⟩:∃q:Nat,q=f / 8:=⟨_,rfl⟩;obtain⟨r,F⟩:∃r:Nat,r=f % 8:=⟨_,rfl⟩;obtain⟨o,t⟩:∃o:Nat,o=r*8:=⟨_,rfl⟩;have E:=bq m 0;rw[(ry a oM).2.2] at E;have D:=aJ n q;rw[((bH b).pv (show q<4 by exact oM)).1] at D;have R:IntKind.u64.wrap (31 - (a:Int))=(f:Int):=by rw[IntKind.wrap_u64];exact oM
  have S:(f:Int).tdiv 8=(q:Int):=by rw[aBk oM];exact oM
  have N:IntKind.u64.wrap (q:Int)=(q:Int):=by rw[IntKind.wrap_u64];exact oM
  have P:(f:Int).tmod 8=(r:Int):=by rw[aBR oM];exact oM
  have O:IntKind.u64.wrap (r:Int)=(r:Int):=by rw[IntKind.wrap_u64];exact oM
  have Q:IntKind.u64.wrap ((r:Int)*8)=(o:Int):=by rw[IntKind.wrap_u64];exact oM
  have I:(q:Int)<4:=oM
  have e8:(f:Int) / 8=(q:Int):=oM
  have U:(f:Int) % 8=(r:Int):=oM
  have G:=US i;clear i z F t d;go_wp2_with (refine iX bG (Mh (bT _)) k rfl (fun V h g=>?_))
  exact eH bG h rfl results123 ⟨.of (Mh (bT _)),g.below (by have:=l.out;exact oM) j⟩
 .have v:decide (a<32)=false:=by simpa using d
  clear d;go_wp2_with (refine iX bG rn k rfl (fun V h g=>?_))
  exact eH bG h rfl results123 ⟨.of rn,g.below (by have:=l.out;exact oM) j⟩
def rz(a b:Nat)(ha:a<M)(W:WR):Cq 115 #[wd a,wd b] W fun e w'=>AO e/\Bw W w':=by
 change Cq 115 #[.agg (wq a),.agg (wq b)] W _;have P:=less a 31 ha dC;rw[(ry 31 dC).1] at P;obtain⟨V0,A,B,C,t,I,J,X,s,h,f,c⟩:=ON W (.ce (wq a) 41) (.ce (wq b) 41) (.ce wz 41);go_enter (qz func115),ntmps115;go_wp2_with fail;change Calls _ _ _ (((W.alloc (.ce (wq a) 41)).alloc (.ce (wq b) 41)).alloc (.ce wz 41)) _;rw[<-t];try rw[X.out]
 try rw[J.out]
 rw[I.out];have lB:A<B:=by have:=I.out;have:=J.out;exact oM
 have lC:B<C:=by have:=J.out;have:=X.out;exact oM
 clear t;refine(P _).mono ?_;rintro e V1 ⟨rfl,i⟩;clear P;replace s:=bk i s;replace h:=bk i h;replace f:=bk i f;replace c:=c.tr (i.mono c.size);clear i;have a5:=aG s;have lW:W.heap.size<=A:=by have:=I.out;exact oM
 by_cases l:a<31
 .have hd:decide (a<31)=true:=by simpa using l
  have Y:=bq s 0;rw[(ry a oM).2.2] at Y;obtain⟨m,w⟩:∃m:Nat,a*8+7=m:=⟨_,rfl⟩;have a1:iw (a:Int)=(a:Int):=iW;have a2:iw ((a:Int)*8)=(a:Int)*8:=iW;have a3:IntKind.i64.wrap ((a:Int)*8+7)=(m:Int):=by rw[IntWalk.i64_in _ ⟨oM,oM⟩];exact oM
  have a4:IntKind.i64.wrap ((m:Int)+1)=((m+1:Nat):Int):=by rw[IntWalk.i64_in _ ⟨oM,oM⟩];exact oM
  have L:m+1<256:=oM
  have U:=Hf (m+1) L;have u:=He b m oM;have R:=US w;clear w l;go_wp2_with fail;refine(U _).mono ?_;rintro e O ⟨⟨x,hx,rfl⟩,j⟩;clear Y U a1 a2 a3 a4;replace s:=bk j s;replace h:=bk j h;replace f:=bk j f;replace c:=c.tr (j.mono c.size);obtain⟨V4,E,D,S,H,F⟩:=G5 O (.ce (wq x) 41);have lE:C<E:=by have:=aG f;have:=S.out;exact oM
  have a0:=aG h;obtain⟨b0,b1,b2,Z⟩:=q4 h;go_wp2_with fail;refine(u _).mono ?_;rintro e T ⟨⟨q,rfl⟩,k⟩;change Below (O.alloc (.ce (wq x) 41)).heap.size (O.alloc (.ce (wq x) 41)) T at k;rw[<-D] at k;clear u b0 b1 b2 Z D;try rw[S.out]
  have p:=F.tr (k.mono F.size);replace h:=bk p h;replace f:=bk p f;replace H:=bk k H;replace c:=c.tr (p.mono c.size);cases q
  .go_wp2_with (first| (refine pG bG h rfl ?_)| (refine pG bG H rfl ?_))
   refine(Hc b x _).mono ?_;rintro e V6 ⟨⟨y,hy,rfl⟩,d⟩;replace f:=bk d f;replace c:=c.tr (d.mono c.size);go_wp2_with (refine iX bG (bH y) f rfl (fun V t n=>?_))
   exact eH bG t rfl results115 ⟨.of (bH y),n.below (by have:=I.out;exact oM) c⟩
  .go_wp2_with fail;refine rq (fun V=>V.heap[B]?=ob (wq b) 41/\V.heap[E]?=ob (wq x) 41) ⟨h,H⟩ fun g=>?_;refine tV 0 (fun _ Q=>q4 (Q.1)) g ?_;refine tV 1 (fun _ Q=>q4 (Q.2)) g ?_;refine rA 2 fun K G=>?_;go_simp;refine(Hd x _).mono ?_;rintro e V6 ⟨⟨y,hy,rfl⟩,d⟩;go_wp2_with fail;refine G.out _ _ ⟨bk d g.1,bk d g.2⟩ fun g=>?_;refine rA 3 fun K G=>?_;go_simp;refine(Ph b y _).mono ?_;rintro e V7 ⟨⟨z,hz,rfl⟩,r⟩;go_wp2_with fail;refine G.out _ _ ⟨bk r g.1,bk r g.2⟩ fun g=>?_;have v:Bw T V7:=bR.drew.tr (d.tr (r.mono d.size));replace f:=bk v f;replace c:=c.tr (v.mono c.size);refine rA 4 fun K G=>?_;rw[if_pos rI];refine OL bG (bH z) f rfl fun V8 N o=>G.out _ _ ⟨o.blk g.1 oM,o.blk g.2 oM⟩ (fun g=>?_);refine dn ?_;go_wp2;exact eH bG N rfl results115 ⟨.of (bH z),o.below oM c⟩
 .have hd:decide (a<31)=false:=by simpa using l
  clear l;go_wp2_with (first| (refine pG bG h rfl ?_)| (refine iX bG (bH b) f rfl (fun V t n=>?_)))
  exact eH bG t rfl results115 ⟨.of (bH b),n.below oM c⟩
def ei(a b:Nat)(C:a<M)(o:b<M)(W:WR):Cq 118 #[wd a,wd b] W fun e w=>Mf e/\Bw W w:=by
 change Cq 118 #[.agg (wq a),.agg (wq b)] W _;have l:=less a b C o;obtain⟨x,A,B,v,r,t,s,u,f⟩:=G2 W (.ce (wq a) 41) (.ce (wq b) 41);go_enter (qz func118),ntmps118;go_wp2_with fail;change Code.wp _ _ _ _ ((W.alloc (.ce (wq a) 41)).alloc (.ce (wq b) 41));rw[<-v];try rw[t.out]
 rw[r.out];have F:A<B:=by have:=r.out;have:=t.out;exact oM
 clear v;refine rq (fun V=>V.heap[A]?=ob (wq a) 41/\V.heap[B]?=ob (wq b) 41) ⟨s,u⟩ fun d=>?_;refine tV 0 (fun _ n=>q4 (n.1)) d ?_;refine tV 2 (fun _ n=>q4 (n.2)) d ?_;refine rA 1 fun K j=>?_;go_simp;refine(gN a _).mono ?_;rintro e E ⟨⟨y,rfl⟩,h⟩;go_wp2_with fail;refine j.out _ _ ⟨bk h d.1,bk h d.2⟩ fun d=>?_;refine rA 3 fun K j=>?_;go_simp;refine(gN b _).mono ?_;rintro e z ⟨⟨D,rfl⟩,i⟩;go_wp2_with fail;refine j.out _ _ ⟨bk i d.1,bk i d.2⟩ fun d=>?_;refine rA 4 fun K j=>?_;go_simp;refine j.out _ _ d fun d=>?_;refine dn ?_;have p:Bw x z:=bR.drew.tr (h.tr (i.mono h.size));replace f:=f.tr (p.mono f.size);have g:=d.1;have k:=d.2;clear d s u;cases y<;>cases D
 .go_wp2_with (first| (refine pG bG g rfl ?_)| (refine pG bG k rfl ?_))
  refine(l _).mono ?_;rintro e m ⟨rfl,c⟩;clear l;go_wp2;go_ret;exact⟨⟨_,rfl⟩,f.tr (c.mono f.size)⟩
 .go_wp2_with (refine pG bG g rfl ?_)
  refine(gN a _).mono ?_;rintro e m ⟨⟨q,rfl⟩,c⟩;go_wp2;go_ret;exact⟨⟨_,rfl⟩,f.tr (c.mono f.size)⟩
 .go_wp2_with (refine pG bG g rfl ?_)
  refine(gN a _).mono ?_;rintro e m ⟨⟨q,rfl⟩,c⟩;go_wp2;go_ret;exact⟨⟨_,rfl⟩,f.tr (c.mono f.size)⟩
 .go_wp2_with (first| (refine pG bG g rfl ?_)| (refine pG bG k rfl ?_))
  refine(l _).mono ?_;rintro e m ⟨rfl,c⟩;clear l;go_wp2;go_ret;exact⟨⟨_,rfl⟩,f.tr (c.mono f.size)⟩
def Mj(a b:Nat)(W:WR):Cq 114 #[wd a,wd b] W fun e O=>AO e/\Bw W O:=by
 change Cq 114 #[.agg (wq a),.agg (wq b)] W _;obtain⟨V0,A,B,C,D,v,z,G,I,L,g,l,j,f,d⟩:=VL W (.ce (wq a) 41) (.ce (wq b) 41) (.ce wz 41) (.ce #[vU 1,vU 0,vU 0,vU 0] 41);go_enter (qz func114),ntmps114;go_wp2_with fail;change Calls _ _ _ ((((W.alloc (.ce (wq a) 41)).alloc (.ce (wq b) 41)).alloc (.ce wz 41)).alloc (.ce #[vU 1,vU 0,vU 0,vU 0] 41)) _;rw[<-v];try rw[L.out]
 try rw[I.out]
 try rw[G.out]
 rw[z.out];have lB:A<B:=by have:=z.out;have:=G.out;exact oM
 have Z:B<C:=by have:=G.out;have:=I.out;exact oM
 have lD:C<D:=by have:=I.out;have:=L.out;exact oM
 clear v;refine(RE b _).mono ?_;rintro e V1 ⟨n,H,P,rfl,o⟩;replace g:=bk o g;replace l:=bk o l;replace j:=bk o j;replace f:=bk o f;replace d:=d.tr (o.mono d.size);clear o;have lW:W.heap.size<=A:=by have:=z.out;exact oM
 obtain⟨n,rfl⟩:=aAW H;obtain⟨T,X,J⟩:=(Mh (v:=1) dC).Me;rw[J] at f;clear J;go_wp2_with fail;go_loopw [10] (fun i V=>∃(k x y:Nat),i=vI (k:Int)/\k<=n/\V.heap[A]?=ob (wq x) 41/\V.heap[D]?=ob (wq y) 41/\V.heap[B]?=ob (wq b) 41/\V.heap[C]?=ob wz 41/\Bw W V) (fun i _=>n - (Go.RowKit.intOf i).toNat)
 case atStart=>exact⟨0,a,T,rfl,aBa _,g,f,l,j,d⟩
 case round=>
  clear g l j f d;obtain⟨k,x,y,rfl,hk,g,f,l,j,d⟩:=hrel;by_cases N:k<n
  .have K:(k:Int)<(n:Int):=oM
   have a9:IntKind.i64.wrap ((k:Int)+1)=((k+1:Nat):Int):=by rw[IntWalk.i64_in _ ⟨oM,oM⟩];exact oM
   have t:=He b k oM;go_wp2_with (refine pG bG l rfl ?_)
   refine(t _).mono ?_;rintro e V2 ⟨⟨q,rfl⟩,m⟩;clear t;replace g:=bk m g;replace l:=bk m l;replace j:=bk m j;replace f:=bk m f;replace d:=d.tr (m.mono d.size);clear m;cases q
   .go_wp2_with (refine pG bG g rfl ?_)
    refine(rp x x _).mono ?_;rintro e U ⟨⟨u,w,rfl⟩,c⟩;replace g:=bk c g;replace l:=bk c l;replace j:=bk c j;replace f:=bk c f;replace d:=d.tr (c.mono d.size);clear c;go_wp2_with (refine iX bG (bH u) g rfl (fun R s h=>?_))
    go_roundw
    case rel=>exact⟨k+1,u,_,rfl,oM,s,h.blk f oM,h.blk l oM,h.blk j oM,h.below oM d⟩
    case measure=>simp[Go.RowKit.intOf];exact oM
   .go_wp2_with (first| (refine pG bG f rfl ?_)| (refine pG bG g rfl ?_))
    refine(rp y x _).mono ?_;rintro e Y ⟨⟨S,Q,rfl⟩,p⟩;replace g:=bk p g;replace l:=bk p l;replace j:=bk p j;replace f:=bk p f;replace d:=d.tr (p.mono d.size);clear p;go_wp2_with (first| (refine pG bG g rfl ?_)| (refine iX bG (bH S) f rfl (fun V6 F r=>?_);replace g:=r.blk g oM;replace l:=r.blk l oM;replace j:=r.blk j oM;replace d:=r.below oM d;clear f;have f:=F))
    refine(rp x x _).mono ?_;rintro e U ⟨⟨u,w,rfl⟩,c⟩;replace g:=bk c g;replace l:=bk c l;replace j:=bk c j;replace f:=bk c f;replace d:=d.tr (c.mono d.size);clear c;go_wp2_with (refine iX bG (bH u) g rfl (fun R s h=>?_))
    go_roundw
    case rel=>exact⟨k+1,u,_,rfl,oM,s,h.blk f oM,h.blk l oM,h.blk j oM,h.below oM d⟩
    case measure=>simp[Go.RowKit.intOf];exact oM
  .have M:¬(k:Int)<(n:Int):=oM
   go_wp2_with (first| (refine pG bG f rfl ?_)| (refine iX bG (bH y) j rfl (fun V v E=>?_)))
   exact eH bG v rfl results114 ⟨.of (bH y),E.below oM d⟩
def Hh(a b c:Nat)(k:a<M)(i:b<M)(op:Int)(o:1<=op/\op<=22)(W:WR):Cq 66 #[vB op,wd a,wd b,wd c] W fun e s=>AO e/\Bw W s:=by
 have v:op=1\/op=2\/op=3\/op=4\/op=5\/op=6\/op=7\/op=8\/op=9\/op=10\/op=11\/op=12\/op=13\/op=14\/op=15\/op=16\/op=17\/op=18\/op=19\/op=20\/op=21\/op=22:=oM
 clear o;change Cq 66 #[vB op,.agg (wq a),.agg (wq b),.agg (wq c)] W _;obtain⟨F,A,B,C,D,j,t,w,y,r,G,H,E,g,f⟩:=VL W (.ce (wq a) 41) (.ce (wq b) 41) (.ce (wq c) 41) (.ce wz 41);have l:W.heap.size<=D:=by have:=r.out;exact oM
 have u:∀V,(Op.equalIn 10000 41 (.agg (wq a)) (.agg (wq b))).run zQ.prog V=.ok (decide (a=b)) V:=fun V=>rW a b k i V;have z:∀V,(Op.equalIn 10000 41 (.agg (wq a)) (.agg wz)).run zQ.prog V=.ok (decide (a=0)) V:=fun V=>Lx a k V;rcases v with rfl|rfl|rfl|rfl|rfl|rfl|rfl|rfl|rfl|rfl|rfl|rfl|rfl|rfl|rfl|rfl|rfl|rfl|rfl|rfl|rfl|rfl;all_goals
  go_enter (qz func66),ntmps66;go_wp2_with fail;change Calls _ _ _ ((((W.alloc (.ce (wq a) 41)).alloc (.ce (wq b) 41)).alloc (.ce (wq c) 41)).alloc (.ce wz 41)) _;rw[<-j];rw[r.out];try rw[y.out]
  try rw[w.out]
  rw[t.out];clear j u z
 · refine(add a b k i _).mono ?_
   rintro e m ⟨rfl,d⟩;replace g:=bk d g;replace f:=f.tr (d.mono f.size);go_wp2_with (refine iX bG (bH ((a+b) % M)) g rfl (fun V j h=>?_))
   exact eH bG j rfl results66 ⟨.of (bH ((a+b) % M)),h.below l f⟩
 · refine(sub a b k i _).mono ?_
   rintro e m ⟨rfl,d⟩;replace g:=bk d g;replace f:=f.tr (d.mono f.size);go_wp2_with (refine iX bG (bH ((a+M - b) % M)) g rfl (fun V j h=>?_))
   exact eH bG j rfl results66 ⟨.of (bH ((a+M - b) % M)),h.below l f⟩
 refine(rp a b _).mono ?_;rotate_left
 refine(G8 a b _).mono ?_;rotate_left
 refine(G9 a b _).mono ?_;rotate_left
 refine(Ha a b k i _).mono ?_;rotate_left
 refine(Hb a b k i _).mono ?_;rotate_left
 refine(rr a b c k i _).mono ?_;rotate_left
 refine(ru a b c _).mono ?_;rotate_left
 refine(Mj a b _).mono ?_;rotate_left
 refine(rz a b k _).mono ?_;rotate_left
 · refine(less a b k i _).mono ?_
   rintro e m ⟨rfl,d⟩;replace g:=bk d g;replace f:=f.tr (d.mono f.size);go_wp2_with fail;refine(uK _ _).mono ?_;rintro e p ⟨⟨x,n,rfl⟩,d⟩;replace g:=bk d g;replace f:=f.tr (d.mono f.size);go_wp2_with (refine iX bG (bH x) g rfl (fun V j h=>?_))
   exact eH bG j rfl results66 ⟨.of (bH x),h.below l f⟩
 · refine(less b a i k _).mono ?_
   rintro e m ⟨rfl,d⟩;replace g:=bk d g;replace f:=f.tr (d.mono f.size);go_wp2_with fail;refine(uK _ _).mono ?_;rintro e p ⟨⟨x,n,rfl⟩,d⟩;replace g:=bk d g;replace f:=f.tr (d.mono f.size);go_wp2_with (refine iX bG (bH x) g rfl (fun V j h=>?_))
   exact eH bG j rfl results66 ⟨.of (bH x),h.below l f⟩
 · refine(ei a b k i _).mono ?_
   rintro e m ⟨⟨q,rfl⟩,d⟩;replace g:=bk d g;replace f:=f.tr (d.mono f.size);go_wp2_with fail;refine(uK _ _).mono ?_;rintro e p ⟨⟨x,n,rfl⟩,d⟩;replace g:=bk d g;replace f:=f.tr (d.mono f.size);go_wp2_with (refine iX bG (bH x) g rfl (fun V j h=>?_))
   exact eH bG j rfl results66 ⟨.of (bH x),h.below l f⟩
 · refine(ei b a i k _).mono ?_
   rintro e m ⟨⟨q,rfl⟩,d⟩;replace g:=bk d g;replace f:=f.tr (d.mono f.size);go_wp2_with fail;refine(uK _ _).mono ?_;rintro e p ⟨⟨x,n,rfl⟩,d⟩;replace g:=bk d g;replace f:=f.tr (d.mono f.size);go_wp2_with (refine iX bG (bH x) g rfl (fun V j h=>?_))
   exact eH bG j rfl results66 ⟨.of (bH x),h.below l f⟩
 refine(uK _ _).mono ?_;rotate_left
 refine(uK _ _).mono ?_;rotate_left
 refine(Hc a b _).mono ?_;rotate_left
 refine(Ph a b _).mono ?_;rotate_left
 refine(Mg a b _).mono ?_;rotate_left
 refine(Hd a _).mono ?_;rotate_left
 refine(Hg a b k _).mono ?_;rotate_left
 all_goals
  rintro e m ⟨⟨x,n,rfl⟩,d⟩;replace g:=bk d g;replace f:=f.tr (d.mono f.size);go_wp2_with (refine iX bG (bH x) g rfl (fun V j h=>?_))
  exact eH bG j rfl results66 ⟨.of (bH x),h.below l f⟩
end
end Go.Mark
