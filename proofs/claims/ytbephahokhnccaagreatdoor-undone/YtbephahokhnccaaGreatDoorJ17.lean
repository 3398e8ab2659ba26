import Derived.Test.YtbephahokhnccaaGreatDoorJ13
import Derived.Test.YtbephahokhnccaaGreatDoorJ16
set_option linter.all false
set_option maxRecDepth 100000
set_option maxHeartbeats 8000000
namespace Go.Mark
open Go.RowKit Go.Proofs Go.Proofs.Tryz
variable{dp li:Addr}{cur:Ff}{C:Kc}{S T:K4}{X:K3}{f g b c n o n2 k i x l:Nat}{sv mv y:SV}{s s0:St}{t ty u sT:Fh}{W W' W0:WR}{F:fC}
section
open Go.Shelf
variable [aB]
attribute [local go_sem] wd
def N5(a b c:Nat)(l:a<M)(k:b<M)(W:WR):Cq 66 #[vB 1,wd a,wd b,wd c] W fun e s=>e=.returned (wd ((a+b) % M))/\Bw W s:=by
 change Cq 66 #[vB 1,.agg (wq a),.agg (wq b),.agg (wq c)] W _;obtain⟨u,A,B,C,D,g,h,m,n,p,q,r,o,i,f⟩:=VL W (.cells (wq a) 41) (.cells (wq b) 41) (.cells (wq c) 41) (.cells wz 41);go_enter (qz func66),Tryz.ntmps66;go_wp2_with fail;change Calls _ _ _ ((((W.alloc (.cells (wq a) 41)).alloc (.cells (wq b) 41)).alloc (.cells (wq c) 41)).alloc (.cells wz 41)) _;rw[<-g];try rw[p.out]
 try rw[n.out]
 try rw[m.out]
 rw[h.out];have x:A<B:=by have:=h.out;have:=m.out;exact oM
 have t:B<C:=by have:=m.out;have:=n.out;exact oM
 have w:C<D:=by have:=n.out;have:=p.out;exact oM
 clear g;refine(add a b l k _).mono ?_;rintro e v ⟨rfl,d⟩;replace q:=bk d q;replace r:=bk d r;replace o:=bk d o;replace i:=bk d i;replace f:=f.trans (d.mono f.size);clear d;go_wp2_with (refine iX bG (bH ((a+b) % M)) i rfl (fun V g j=>?_))
 exact eH bG g rfl Tryz.results66 ⟨rfl,j.below (by have:=h.out;exact oM) f⟩
def N6(a b c:Nat)(l:a<M)(k:b<M)(W:WR):Cq 37 #[vB 1,wd a,wd b,wd c] W fun e s=>e=.returned (wd ((a+b) % M))/\Bw W s:=by
 change Cq 37 #[vB 1,.agg (wq a),.agg (wq b),.agg (wq c)] W _;obtain⟨u,A,B,C,D,g,h,m,n,p,q,r,o,i,f⟩:=VL W (.cells (wq a) 41) (.cells (wq b) 41) (.cells (wq c) 41) (.cells wz 41);go_enter (qz func37),Tryz.ntmps37;go_wp2_with fail;change Calls _ _ _ ((((W.alloc (.cells (wq a) 41)).alloc (.cells (wq b) 41)).alloc (.cells (wq c) 41)).alloc (.cells wz 41)) _;rw[<-g];try rw[p.out]
 try rw[n.out]
 try rw[m.out]
 rw[h.out];have x:A<B:=by have:=h.out;have:=m.out;exact oM
 have t:B<C:=by have:=m.out;have:=n.out;exact oM
 have w:C<D:=by have:=n.out;have:=p.out;exact oM
 clear g;refine(N5 a b c l k _).mono ?_;rintro e v ⟨rfl,d⟩;replace q:=bk d q;replace r:=bk d r;replace o:=bk d o;replace i:=bk d i;replace f:=f.trans (d.mono f.size);clear d;go_wp2_with (refine iX bG (bH ((a+b) % M)) i rfl (fun V g j=>?_))
 exact eH bG g rfl Tryz.results37 ⟨rfl,j.below (by have:=h.out;exact oM) f⟩
def N7(a b:Nat)(k:a<M)(j:b<M)(W:WR):Cq 20 #[vB 1,wd a,wd b] W fun e q=>e=.returned (wd ((a+b) % M))/\Bw W q:=by
 change Cq 20 #[vB 1,.agg (wq a),.agg (wq b)] W _;have n:=N6 a b 0 k j;rw[G7] at n;obtain⟨s,A,B,C,f,h,l,p,m,o,g,d⟩:=ON W (.cells (wq a) 41) (.cells (wq b) 41) (.cells wz 41);go_enter (qz func20),Tryz.ntmps20;go_wp2_with fail;change Calls _ _ _ (((W.alloc (.cells (wq a) 41)).alloc (.cells (wq b) 41)).alloc (.cells wz 41)) _;rw[<-f];try rw[p.out]
 try rw[l.out]
 rw[h.out];have u:A<B:=by have:=h.out;have:=l.out;exact oM
 have r:B<C:=by have:=l.out;have:=p.out;exact oM
 clear f;refine(n _).mono ?_;rintro e t ⟨rfl,c⟩;replace m:=bk c m;replace o:=bk c o;replace g:=bk c g;replace d:=d.trans (c.mono d.size);clear c;go_wp2_with (refine iX bG (bH ((a+b) % M)) g rfl (fun V f i=>?_))
 exact eH bG f rfl Tryz.results20 ⟨rfl,i.below (by have:=h.out;exact oM) d⟩
def N8(a b c:Nat)(l:a<M)(k:b<M)(W:WR):Cq 66 #[vB 2,wd a,wd b,wd c] W fun e s=>e=.returned (wd ((a+M - b) % M))/\Bw W s:=by
 change Cq 66 #[vB 2,.agg (wq a),.agg (wq b),.agg (wq c)] W _;obtain⟨u,A,B,C,D,g,h,m,n,p,q,r,o,i,f⟩:=VL W (.cells (wq a) 41) (.cells (wq b) 41) (.cells (wq c) 41) (.cells wz 41);go_enter (qz func66),Tryz.ntmps66;go_wp2_with fail;change Calls _ _ _ ((((W.alloc (.cells (wq a) 41)).alloc (.cells (wq b) 41)).alloc (.cells (wq c) 41)).alloc (.cells wz 41)) _;rw[<-g];try rw[p.out]
 try rw[n.out]
 try rw[m.out]
 rw[h.out];have x:A<B:=by have:=h.out;have:=m.out;exact oM
 have t:B<C:=by have:=m.out;have:=n.out;exact oM
 have w:C<D:=by have:=n.out;have:=p.out;exact oM
 clear g;refine(sub a b l k _).mono ?_;rintro e v ⟨rfl,d⟩;replace q:=bk d q;replace r:=bk d r;replace o:=bk d o;replace i:=bk d i;replace f:=f.trans (d.mono f.size);clear d;go_wp2_with (refine iX bG (bH ((a+M - b) % M)) i rfl (fun V g j=>?_))
 exact eH bG g rfl Tryz.results66 ⟨rfl,j.below (by have:=h.out;exact oM) f⟩
def N9(a b c:Nat)(l:a<M)(k:b<M)(W:WR):Cq 37 #[vB 2,wd a,wd b,wd c] W fun e s=>e=.returned (wd ((a+M - b) % M))/\Bw W s:=by
 change Cq 37 #[vB 2,.agg (wq a),.agg (wq b),.agg (wq c)] W _;obtain⟨u,A,B,C,D,g,h,m,n,p,q,r,o,i,f⟩:=VL W (.cells (wq a) 41) (.cells (wq b) 41) (.cells (wq c) 41) (.cells wz 41);go_enter (qz func37),Tryz.ntmps37;go_wp2_with fail;change Calls _ _ _ ((((W.alloc (.cells (wq a) 41)).alloc (.cells (wq b) 41)).alloc (.cells (wq c) 41)).alloc (.cells wz 41)) _;rw[<-g];try rw[p.out]
 try rw[n.out]
 try rw[m.out]
 rw[h.out];have x:A<B:=by have:=h.out;have:=m.out;exact oM
 have t:B<C:=by have:=m.out;have:=n.out;exact oM
 have w:C<D:=by have:=n.out;have:=p.out;exact oM
 clear g;refine(N8 a b c l k _).mono ?_;rintro e v ⟨rfl,d⟩;replace q:=bk d q;replace r:=bk d r;replace o:=bk d o;replace i:=bk d i;replace f:=f.trans (d.mono f.size);clear d;go_wp2_with (refine iX bG (bH ((a+M - b) % M)) i rfl (fun V g j=>?_))
 exact eH bG g rfl Tryz.results37 ⟨rfl,j.below (by have:=h.out;exact oM) f⟩
def Oa(a b:Nat)(k:a<M)(j:b<M)(W:WR):Cq 20 #[vB 2,wd a,wd b] W fun e q=>e=.returned (wd ((a+M - b) % M))/\Bw W q:=by
 change Cq 20 #[vB 2,.agg (wq a),.agg (wq b)] W _;have n:=N9 a b 0 k j;rw[G7] at n;obtain⟨s,A,B,C,f,h,l,p,m,o,g,d⟩:=ON W (.cells (wq a) 41) (.cells (wq b) 41) (.cells wz 41);go_enter (qz func20),Tryz.ntmps20;go_wp2_with fail;change Calls _ _ _ (((W.alloc (.cells (wq a) 41)).alloc (.cells (wq b) 41)).alloc (.cells wz 41)) _;rw[<-f];try rw[p.out]
 try rw[l.out]
 rw[h.out];have u:A<B:=by have:=h.out;have:=l.out;exact oM
 have r:B<C:=by have:=l.out;have:=p.out;exact oM
 clear f;refine(n _).mono ?_;rintro e t ⟨rfl,c⟩;replace m:=bk c m;replace o:=bk c o;replace g:=bk c g;replace d:=d.trans (c.mono d.size);clear c;go_wp2_with (refine iX bG (bH ((a+M - b) % M)) g rfl (fun V f i=>?_))
 exact eH bG f rfl Tryz.results20 ⟨rfl,i.below (by have:=h.out;exact oM) d⟩
def Ob(a b c:Nat)(l:a<M)(k:b<M)(W:WR):Cq 66 #[vB 3,wd a,wd b,wd c] W fun e s=>e=.returned (wd (a*b % M))/\Bw W s:=by
 change Cq 66 #[vB 3,.agg (wq a),.agg (wq b),.agg (wq c)] W _;obtain⟨u,A,B,C,D,g,h,m,n,p,q,r,o,i,f⟩:=VL W (.cells (wq a) 41) (.cells (wq b) 41) (.cells (wq c) 41) (.cells wz 41);go_enter (qz func66),Tryz.ntmps66;go_wp2_with fail;change Calls _ _ _ ((((W.alloc (.cells (wq a) 41)).alloc (.cells (wq b) 41)).alloc (.cells (wq c) 41)).alloc (.cells wz 41)) _;rw[<-g];try rw[p.out]
 try rw[n.out]
 try rw[m.out]
 rw[h.out];have x:A<B:=by have:=h.out;have:=m.out;exact oM
 have t:B<C:=by have:=m.out;have:=n.out;exact oM
 have w:C<D:=by have:=n.out;have:=p.out;exact oM
 clear g;refine(M6 a b l k _).mono ?_;rintro e v ⟨rfl,d⟩;replace q:=bk d q;replace r:=bk d r;replace o:=bk d o;replace i:=bk d i;replace f:=f.trans (d.mono f.size);clear d;go_wp2_with (refine iX bG (bH (a*b % M)) i rfl (fun V g j=>?_))
 exact eH bG g rfl Tryz.results66 ⟨rfl,j.below (by have:=h.out;exact oM) f⟩
def Oc(a b c:Nat)(l:a<M)(k:b<M)(W:WR):Cq 37 #[vB 3,wd a,wd b,wd c] W fun e s=>e=.returned (wd (a*b % M))/\Bw W s:=by
 change Cq 37 #[vB 3,.agg (wq a),.agg (wq b),.agg (wq c)] W _;obtain⟨u,A,B,C,D,g,h,m,n,p,q,r,o,i,f⟩:=VL W (.cells (wq a) 41) (.cells (wq b) 41) (.cells (wq c) 41) (.cells wz 41);go_enter (qz func37),Tryz.ntmps37;go_wp2_with fail;change Calls _ _ _ ((((W.alloc (.cells (wq a) 41)).alloc (.cells (wq b) 41)).alloc (.cells (wq c) 41)).alloc (.cells wz 41)) _;rw[<-g];try rw[p.out]
 try rw[n.out]
 try rw[m.out]
 rw[h.out];have x:A<B:=by have:=h.out;have:=m.out;exact oM
 have t:B<C:=by have:=m.out;have:=n.out;exact oM
 have w:C<D:=by have:=n.out;have:=p.out;exact oM
 clear g;refine(Ob a b c l k _).mono ?_;rintro e v ⟨rfl,d⟩;replace q:=bk d q;replace r:=bk d r;replace o:=bk d o;replace i:=bk d i;replace f:=f.trans (d.mono f.size);clear d;go_wp2_with (refine iX bG (bH (a*b % M)) i rfl (fun V g j=>?_))
 exact eH bG g rfl Tryz.results37 ⟨rfl,j.below (by have:=h.out;exact oM) f⟩
def Ji(a b:Nat)(k:a<M)(j:b<M)(W:WR):Cq 20 #[vB 3,wd a,wd b] W fun e q=>e=.returned (wd (a*b % M))/\Bw W q:=by
 change Cq 20 #[vB 3,.agg (wq a),.agg (wq b)] W _;have n:=Oc a b 0 k j;rw[G7] at n;obtain⟨s,A,B,C,f,h,l,p,m,o,g,d⟩:=ON W (.cells (wq a) 41) (.cells (wq b) 41) (.cells wz 41);go_enter (qz func20),Tryz.ntmps20;go_wp2_with fail;change Calls _ _ _ (((W.alloc (.cells (wq a) 41)).alloc (.cells (wq b) 41)).alloc (.cells wz 41)) _;rw[<-f];try rw[p.out]
 try rw[l.out]
 rw[h.out];have u:A<B:=by have:=h.out;have:=l.out;exact oM
 have r:B<C:=by have:=l.out;have:=p.out;exact oM
 clear f;refine(n _).mono ?_;rintro e t ⟨rfl,c⟩;replace m:=bk c m;replace o:=bk c o;replace g:=bk c g;replace d:=d.trans (c.mono d.size);clear c;go_wp2_with (refine iX bG (bH (a*b % M)) g rfl (fun V f i=>?_))
 exact eH bG f rfl Tryz.results20 ⟨rfl,i.below (by have:=h.out;exact oM) d⟩
end
section
variable [aB]
attribute [local go_sem] wd
def OI(v n:Nat)(o:v<M)(r:n<4611686018427387904)(w:WR):
  Cq 326 #[wd v,vI (n:Int)] w fun e k=>((v<n/\e=.rt (.tuple #[vI (v:Int),.bool true]))\/(n<=v/\e=.rt (.tuple #[vI 0,.bool false])))/\Bw w k:=by
 have i:Bw w (w.nc (wq v) 41):=ba;have h:=aM w (.ce (wq v) 41);have b:=less v n o (qg n oM);rw[iU n oM] at b;have p:IntKind.u64.wrap (n:Int)=n:=by rw[IntKind.wrap_u64];omega
 go_enter (qz func326),ntmps326;go_wp2_with fail;apply(b _).mono;rintro e w1 ⟨rfl,f⟩;clear b;have c:=i.tr (f.mono i.size);have d:=bk f h;have s:=bq d 0;have q:=aG d;by_cases g:v<n
 .have j:decide (v<n)=true:=by simpa using g
  have l:aI v 0=(v:Int):=(eL v oM).1;have m:iw (v:Int)=v:=iW;have a:=US g;clear g;go_wp2;simp[bodyPost,results,results326,go_sem];exact⟨a.out,c⟩
 .have j:decide (v<n)=false:=by simpa using g
  have a:Shut (n<=v):=by show n<=v;omega
  clear g;go_wp2;simp[bodyPost,results,results326,go_sem];exact⟨a.out,c⟩
def E7(v:Nat)(w:WR):
  Cq 306 #[wd v] w fun e c=>∃i:Int,0<=i/\i<4294967296/\e=.rt (vI i)/\Bw w c:=by
 have f:Bw w (w.nc (wq v) 41):=ba;obtain⟨i,d⟩:∃i,IntKind.u32.wrap (aI v 0)=i:=⟨_,rfl⟩;have a:0<=i/\i<4294967296:=by rw[<-d,IntKind.wrap_u32];omega
 have b:iw i=i:=iW;go_enter (qz func306),ntmps306;go_wp2;go_ret;exact⟨i,a.1,a.2,rfl,f⟩
def RE(a:Nat)(w:WR):
  Cq 171 #[wd a] w fun e l=>∃n:Int,0<=n/\n<=256/\e=.returned (vI n)/\Bw w l:=by
 have j:Bw w (w.alloc (.cells (wq a) 41)):=ba;have m:=aM w (.cells (wq a) 41);go_enter (qz func171),Tryz.ntmps171;go_wp2_with fail;refine(JC a _).mono ?_;rintro e w1 ⟨k,p,_,rfl,f⟩;have c:=j.trans (f.mono j.size);have d:=bk f m;obtain⟨s,q,c2,c3⟩:=q4 d;have r:=aG d;have o:k=0\/k=1\/k=2\/k=3\/k=4:=oM
 rcases o with rfl|rfl|rfl|rfl|rfl
 .go_wp2;go_ret;exact⟨0,dC,dC,rfl,c⟩
 .have b:=qh (aI a 0) w1 (bJ a 0) (by have:=bN a 0;exact oM);go_wp2_with fail;refine b.mono ?_;rintro e w2 ⟨n,g,h,rfl,rfl⟩;have i:IntKind.i64.wrap (0+n)=0+n:=iW;go_wp2;go_ret;exact⟨0+n,oM,oM,sI,c⟩
 .have b:=qh (aI a 1) w1 (bJ a 1) (by have:=bN a 1;exact oM);go_wp2_with fail;refine b.mono ?_;rintro e w2 ⟨n,g,h,rfl,rfl⟩;have i:IntKind.i64.wrap (64+n)=64+n:=iW;go_wp2;go_ret;exact⟨64+n,oM,oM,sI,c⟩
 .have b:=qh (aI a 2) w1 (bJ a 2) (by have:=bN a 2;exact oM);go_wp2_with fail;refine b.mono ?_;rintro e w2 ⟨n,g,h,rfl,rfl⟩;have i:IntKind.i64.wrap (128+n)=128+n:=iW;go_wp2;go_ret;exact⟨128+n,oM,oM,sI,c⟩
 .have b:=qh (aI a 3) w1 (bJ a 3) (by have:=bN a 3;exact oM);go_wp2_with fail;refine b.mono ?_;rintro e w2 ⟨n,g,h,rfl,rfl⟩;have i:IntKind.i64.wrap (192+n)=192+n:=iW;go_wp2;go_ret;exact⟨192+n,oM,oM,sI,c⟩
def dh(a:Nat)(w:WR):
  Cq 321 #[wd a] w fun e g=>∃n:Nat,n<=32/\e=.rt (vI (n:Int))/\Bw w g:=by
 have d:Bw w (w.nc (wq a) 41):=ba;go_enter (qz func321),ntmps321;go_wp2_with fail;apply(RE a _).mono;rintro e w1 ⟨n,k,j,rfl,c⟩;obtain⟨q,f⟩:∃q:Nat,(n+7).tdiv 8=(q:Int):=⟨((n+7) / 8).toNat,by rw[aBk oM];omega⟩;have b:q<=32:=by rw[aBk oM] at f;omega
 have h:iw (n+7)=n+7:=iW;have i:iw (q:Int)=q:=iW;go_wp2;go_ret;exact⟨q,b,rfl,d.tr (c.mono d.size)⟩
def mW{w:WR}{v:vZ}(h:k≠b):(w.setCell ⟨b,i,none⟩ v).cell? ⟨k,o,none⟩=w.cell? ⟨k,o,none⟩:=by simp only[World.cell?,heap_setCell_other w ⟨b,i,none⟩ k v h]
def Mi.fE(h:Mi W C s):C.mc<W.heap.size/\W.cell? ⟨C.mc,0,none⟩=some (pq C.l 0):=by have⟨lg,a,_⟩:=h.mc;exact⟨aG a,by rw[aJ a 0];rfl⟩
def di(h:dT W f F sv mv S X)(y:Mi W C s)(p:F.m=C.mc)(k:Nat)(A:k<M):
   Cq 301 #[pq f 0,wd k] W fun e z=>e=.returned (wd ((gt s.A F.self).sl k))/\Bw W z:=by
 have c:Bw W ((W.alloc (.cells (wq k) 41)).alloc (.cells wz 41)):=(ba).trans ((ba).mono sI);have w:=h.below c;have o:=y.below c;have E:=aG h.fc;have G:=y.fE.1;have j:((W.alloc (.cells (wq k) 41)).alloc (.cells wz 41)).heap[W.heap.size]?=ob (wq k) 41:=aT (aM W _);have g:((W.alloc (.cells (wq k) 41)).alloc (.cells wz 41)).heap[W.heap.size+1]?=ob wz 41:=by have:=aM (W.alloc (.cells (wq k) 41)) (.cells wz 41);simpa using this
 go_enter (qz func301),Tryz.ntmps301;go_wp2_with fail;change Code.wp _ _ _ _ ((W.alloc (.cells (wq k) 41)).alloc (.cells wz 41));generalize((W.alloc (.cells (wq k) 41)).alloc (.cells wz 41))=B at c w o j g⊢;refine rq (fun V=>V.heap[f]?=ob (iE F sv mv) 225/\V.heap[W.heap.size]?=ob (wq k) 41/\V.cell? ⟨C.mc,0,none⟩=some (pq C.l 0)) ⟨w.fc,j,o.fE.2⟩ fun a=>?_;refine t3 0 1 2 a ?_;refine tD 3 8 (pq C.mc 0) (fun V d=>?_) a ?_
 .have D:=bq (d.1) 0;rw[p] at D;clear d a;go_simp
 refine t2 4 5 a ?_;refine tV 6 (fun _ d=>d.2.2) a ?_;refine t3 7 8 9 a ?_;refine tV 10 (fun _ d=>bq (d.1) 6) a ?_;refine tV 11 (fun _ d=>q4 (d.2.1)) a ?_;refine rA 12 fun K r=>?_;go_simp;refine(F3 (o.lf.below bR.drew) F.self k A).mono ?_;rintro e x ⟨rfl,b⟩;go_wp2_with fail;refine r.out _ _ ⟨bk b a.1,bk b a.2.1,(b.cell (p:=⟨C.mc,0,none⟩) o.fE.1).trans a.2.2⟩ fun a=>?_;have n:=(b.block _ (aG (w:=B.drew) g)).trans g;obtain⟨v,t,q,u,L,H,N,I⟩:=q8 n;refine rA 13 fun K r=>?_;go_simp;refine r.out _ _ ⟨aD (aD (aD (aD a.1 oM) oM) oM) oM,aD (aD (aD (aD a.2.1 oM) oM) oM) oM,((((mW oM).trans (mW oM)).trans (mW oM)).trans (mW oM)).trans a.2.2⟩ fun a=>?_;refine dn ?_;clear v t q u;have l:=c.drew.trans (b.mono c.size);go_wp2;have i:=dV (vU (aI ((gt s.A F.self).sl k) 0)) (vU (aI ((gt s.A F.self).sl k) 1)) (vU (aI ((gt s.A F.self).sl k) 2)) (vU (aI ((gt s.A F.self).sl k) 3)) n;have m:Bw W ((((x.setCell ⟨W.heap.size+1,0,none⟩ (vU (aI ((gt s.A F.self).sl k) 0))).setCell ⟨W.heap.size+1,1,none⟩ (vU (aI ((gt s.A F.self).sl k) 1))).setCell ⟨W.heap.size+1,2,none⟩ (vU (aI ((gt s.A F.self).sl k) 2))).setCell ⟨W.heap.size+1,3,none⟩ (vU (aI ((gt s.A F.self).sl k) 3))):=(((l.setCell (by dsimp only;exact oM) _).setCell (by dsimp only;exact oM) _).setCell (by dsimp only;exact oM) _).setCell (by dsimp only;exact oM) _;generalize((((x.setCell ⟨W.heap.size+1,0,none⟩ (.int .u64 (aI ((gt s.A F.self).sl k) 0))).setCell ⟨W.heap.size+1,1,none⟩ (.int .u64 (aI ((gt s.A F.self).sl k) 1))).setCell ⟨W.heap.size+1,2,none⟩ (.int .u64 (aI ((gt s.A F.self).sl k) 2))).setCell ⟨W.heap.size+1,3,none⟩ (.int .u64 (aI ((gt s.A F.self).sl k) 3)))=J at i m⊢;obtain⟨v,t,q,u⟩:=q4 i;simp[bodyPost,results,Tryz.results301,go_sem,v,t,q,u];exact m
def RF(h:dT W f F sv mv S X)(x:1<=S.length)(g:Nat)(m:F.bP=(g:Int))(u:g<1099511627776):
    Cq 322 #[pq f 0] W fun e l=>e=.rt (vI (min (tw S 1) (g+1):Nat))/\Bw W l:=by
 have i:∀w,Cq 326 #[wd (tw S 1),vI (F.bP+1)] w fun e l=>(∃a b,e=.rt (.tuple #[vI a,.bool b])/\((b=true/\a=(tw S 1:Int)/\tw S 1<g+1)\/(b=false/\g+1<=tw S 1)))/\Bw w l:=fun w=>by
  have:=OI (tw S 1) (g+1) (eO h 1) oM w;rw[show((g+1:Nat):Int)=F.bP+1 by rw[m];omega] at this;apply this.mono;rintro e l ⟨⟨o,rfl⟩| ⟨o,rfl⟩,s⟩
  · exact⟨⟨_,_,rfl,.inl ⟨rfl,rfl,o⟩⟩,s⟩
  · exact⟨⟨_,_,rfl,.inr ⟨rfl,o⟩⟩,s⟩
 have B:iw (F.bP+1)=F.bP+1:=iW;have r:=US m;clear m;go_enter (qz func322),ntmps322;go_wp2_with fail;refine rq (fun V=>V.heap[f]?=ob (iE F sv mv) 225) h.fc fun c=>?_;refine t3 0 1 2 c ?_;refine tV 3 (fun _ n=>bq n 14) c ?_;refine t3 5 6 7 c ?_;refine tV 8 (fun _ n=>bq n 13) c ?_;refine t1 9 c ?_;refine rA 4 fun K p=>?_;go_simp;apply(AK (h.below bR.drew) 1 dC x).mono;rintro e w1 ⟨rfl,d⟩;go_wp2_with fail;refine p.out _ _ (bk d c) fun c=>?_;refine rA 10 fun K p=>?_;go_simp;apply(i w1).mono;rintro e w2 ⟨⟨a,b,rfl,z⟩,j⟩;go_wp2_with fail;refine p.out _ _ (bk j c) fun c=>?_;refine t5 11 12 13 14 15 c ?_;refine dn ?_;have q:Bw W w2:=(bR.drew.tr d).tr (j.mono (aAw lR d.size));have k:=(h.below q).fc;have A:=bq k 13;have v:=aG k;clear i;rcases z with⟨rfl,rfl,t⟩| ⟨rfl,y⟩
 · go_wp2
   go_ret;refine⟨?_,q⟩;rw[aCm oM];rfl
 · go_wp2
   go_ret;refine⟨?_,q⟩;rw[Nat.min_eq_right oM];have:=r.out;show Ending.returned (vI (F.bP+1))=_;rw[this];rfl
def OJ(h:dT W f F sv mv S X)(r:Mi W C s)(v:F.m=C.mc)(E:3<=S.length):
   Cq 323 #[pq f 0] W fun e A=>(∃n:Nat,n<=34000/\(tw S 3≠0->9000<=n)/\e=.rt (vI (n:Int)))/\Bw W A:=by
 have y:=wP (tw S 3) (eO h 3);have z:=bq h.fc 14;have D:=aG h.fc;have p:=fun w (B:Bw W w)=>AK (h.below B) 3 oM oM;by_cases u:tw S 3=0
 .have t:=US u;rw[decide_eq_true u] at y;clear u;go_enter (qz func323),ntmps323;go_wp2_with fail;apply(p _ bR).mono;rintro e w1 ⟨rfl,c⟩;clear p z;go_wp2_with fail;refine rq (fun V=>V.heap[f]?=ob (iE F sv mv) 225/\V.cA C.mc 0=some (pq C.l 0)) ⟨(h.below c).fc,(r.below c).fE.2⟩ fun a=>?_;refine t3 0 1 2 a ?_;refine tD 3 16 (pq C.mc 0) (fun V m=>?_) a ?_
  .have x:=bq (m.1) 0;rw[v] at x;clear m a;go_simp
  refine t2 4 5 a ?_;refine tV 6 (fun _ m=>m.2) a ?_;refine t3 7 8 9 a ?_;refine tV 10 (fun _ m=>bq (m.1) 14) a ?_;refine rA 11 fun K o=>?_;go_simp;apply(AK (h.below c.drew) 2 dC oM).mono;rintro e w2 ⟨rfl,k⟩;go_wp2_with fail;refine o.out _ _ ⟨bk k a.1,(k.cell (p:=(ad C.mc 0)) (r.below c.drew).fE.1).tr a.2⟩ fun a=>?_;have j:=c.drew.tr (k.mono c.size);refine rA 12 fun K o=>?_;go_simp;apply(E7 (tw S 2) w2).mono;rintro e w3 ⟨i,_,_,rfl,l⟩;go_wp2_with fail;refine o.out _ _ ⟨bk l a.1,(l.cell (p:=(ad C.mc 0)) (r.below j).fE.1).tr a.2⟩ fun a=>?_;have g:=j.tr (l.mono j.size);refine rA 13 fun K o=>?_;go_simp;apply(An (r.below g).lf i).mono;rintro e w4 ⟨rfl,rfl⟩;go_wp2_with fail;refine o.out _ _ a fun a=>?_;refine t1 14 a ?_;refine dn ?_;by_cases q:(s.A i).isSome
  · have b:(s.A i).isSome=true:=by simpa using q
    have d:(s.A i).isNone=false:=by rw[<-Option.not_isSome,b];rfl
    rw[b,d];clear b d q;go_wp2;go_ret;exact⟨⟨0,dC,fun h=>absurd t.out h,rfl⟩,g⟩
  · have b:(s.A i).isSome=false:=by simpa using q
    have d:(s.A i).isNone=true:=by rw[<-Option.not_isSome,b];rfl
    rw[b,d];clear b d q;go_wp2;go_ret;exact⟨⟨25000,dC,fun h=>absurd t.out h,rfl⟩,g⟩
 .have t:=US u;rw[decide_eq_false u] at y;clear u;go_enter (qz func323),ntmps323;go_wp2_with fail;apply(p _ bR).mono;rintro e w1 ⟨rfl,c⟩;clear p z;go_wp2_with fail;refine rq (fun V=>V.heap[f]?=ob (iE F sv mv) 225/\V.cA C.mc 0=some (pq C.l 0)) ⟨(h.below c).fc,(r.below c).fE.2⟩ fun a=>?_;refine t3 0 1 2 a ?_;refine tD 3 16 (pq C.mc 0) (fun V m=>?_) a ?_
  .have x:=bq (m.1) 0;rw[v] at x;clear m a;go_simp
  refine t2 4 5 a ?_;refine tV 6 (fun _ m=>m.2) a ?_;refine t3 7 8 9 a ?_;refine tV 10 (fun _ m=>bq (m.1) 14) a ?_;refine rA 11 fun K o=>?_;go_simp;apply(AK (h.below c.drew) 2 dC oM).mono;rintro e w2 ⟨rfl,k⟩;go_wp2_with fail;refine o.out _ _ ⟨bk k a.1,(k.cell (p:=(ad C.mc 0)) (r.below c.drew).fE.1).tr a.2⟩ fun a=>?_;have j:=c.drew.tr (k.mono c.size);refine rA 12 fun K o=>?_;go_simp;apply(E7 (tw S 2) w2).mono;rintro e w3 ⟨i,_,_,rfl,l⟩;go_wp2_with fail;refine o.out _ _ ⟨bk l a.1,(l.cell (p:=(ad C.mc 0)) (r.below j).fE.1).tr a.2⟩ fun a=>?_;have g:=j.tr (l.mono j.size);refine rA 13 fun K o=>?_;go_simp;apply(An (r.below g).lf i).mono;rintro e w4 ⟨rfl,rfl⟩;go_wp2_with fail;refine o.out _ _ a fun a=>?_;refine t1 14 a ?_;refine dn ?_;by_cases q:(s.A i).isSome
  · have b:(s.A i).isSome=true:=by simpa using q
    have d:(s.A i).isNone=false:=by rw[<-Option.not_isSome,b];rfl
    rw[b,d];clear b d q;go_wp2;go_ret;exact⟨⟨9000,dC,fun h=>dC,rfl⟩,g⟩
  · have b:(s.A i).isSome=false:=by simpa using q
    have d:(s.A i).isNone=true:=by rw[<-Option.not_isSome,b];rfl
    rw[b,d];clear b d q;go_wp2;go_ret;exact⟨⟨34000,dC,fun h=>dC,rfl⟩,g⟩
def A8(h:dT W f F sv mv S X)(k:2<=S.length):
  Cq 292 #[pq f 0,vB 10] W fun e d=>(∃n:Nat,n<=320/\e=.rt (vI (n:Int)))/\Bw W d:=by
 have i:=bq h.fc 14;have g:=aG h.fc;have b:=AK h 2 oM oM;go_enter (qz func292),ntmps292;go_wp2_with fail;apply b.mono;rintro e w1 ⟨rfl,a⟩;clear b i;go_wp2_with fail;apply(dh (tw S 2) w1).mono;rintro e w2 ⟨n,l,rfl,c⟩;have j:IntKind.i64.wrap (10*(n:Int))=((10*n:Nat):Int):=by rw[IntWalk.i64_in _ ⟨oM,oM⟩];omega
 go_wp2;go_ret;exact⟨⟨10*n,oM,rfl⟩,a.tr (c.mono a.size)⟩
def A9(h:dT W f F sv mv S X)(q:2<=S.length)(p:tw S 2<=4294967296):
  Cq 292 #[pq f 0,vB 50] W fun e k=>(∃n:Nat,n<=34359738368/\e=.rt (vI (n:Int)))/\Bw W k:=by
 have o:=bq h.fc 14;have m:=aG h.fc;have g:=AK h 2 oM oM;have l:aI (tw S 2) 0=(tw S 2:Int):=(eL _ oM).1;have j:=fun a b c d w=>CU a b c d w;have w1:iw (tw S 2:Int)=(tw S 2:Int):=iW;have w2:IntKind.i64.wrap (8*(tw S 2:Int))=((8*tw S 2:Nat):Int):=by rw[IntWalk.i64_in _ ⟨oM,oM⟩];omega
 go_enter (qz func292),ntmps292;go_wp2_with fail;apply g.mono;rintro e w1 ⟨rfl,i⟩;clear g o;go_wp2;go_ret;exact⟨⟨8*tw S 2,oM,rfl⟩,i⟩
def Ba(h:dT W f F sv mv S X)(u:Mi W C s)(p:F.m=C.mc)(B:2<=S.length):
   Cq 292 #[pq f 0,vB 45] W fun e x=>(∃n:Nat,n<=15000/\e=.rt (vI (n:Int)))/\Bw W x:=by
 have q:=bq h.fc 14;have A:=aG h.fc;have d:=AK h 1 oM oM;have t:=fun w (o:Bw W w)=>di (h.below o) (u.below o) p (tw S 1) (eO h 1);have b:=fun w (o:Bw W w)=>AK (h.below o) 2 oM oM;have g:=wP ((gt s.A F.self).sl (tw S 1)) (u.lf.L1 _ _);have j:=wP (tw S 2) (eO h 2);go_enter (qz func292),ntmps292;go_wp2_with fail;apply d.mono;rintro e w1 ⟨rfl,c⟩;clear d q;go_wp2_with fail;apply(t w1 c).mono;rintro e w2 ⟨rfl,r⟩;clear t;have a:=c.tr (r.mono c.size);have k:=(h.below a).fc;have q:=bq k 14;have v:=aG k;by_cases l:(gt s.A F.self).sl (tw S 1)=0
 .rw[decide_eq_true l] at g;have z:=US l;clear l;go_wp2_with fail;apply(b w2 a).mono;rintro e w3 ⟨rfl,m⟩;clear b q;by_cases i:tw S 2=0
  · rw[decide_eq_true i] at j
    have y:=US i;clear i;go_wp2;go_ret;exact⟨⟨0,dC,rfl⟩,a.tr (m.mono a.size)⟩
  · rw[decide_eq_false i] at j
    clear i;go_wp2;go_ret;exact⟨⟨15000,dC,rfl⟩,a.tr (m.mono a.size)⟩
 .rw[decide_eq_false l] at g;clear l b;go_wp2;go_ret;exact⟨⟨0,dC,rfl⟩,a⟩
def Bc(h:dT W f F sv mv S X)(j:1<=S.length)(g:Nat)(d:F.bP=(g:Int))(c:g<1099511627776):
  Cq 292 #[pq f 0,vB 62] W fun e i=>e=.rt (vI (min (tw S 1) (g+1):Nat))/\Bw W i:=by
 have a:=RF h j g d c;clear d;generalize min (tw S 1) (g+1)=n at a⊢;go_enter (qz func292),ntmps292;go_wp2_with fail;apply a.mono;rintro e w1 ⟨rfl,b⟩;clear a;go_wp2;go_ret;exact⟨rfl,b⟩
def Bd(h:dT W f F sv mv S X)(u:Mi W C s)(c:F.m=C.mc)(v:3<=S.length)(g:Nat)(p:F.bP=(g:Int))(d:g<1099511627776):
  Cq 292 #[pq f 0,vB 61] W fun e r=>(∃n:Nat,n<=34000/\(tw S 3≠0->9000<=n)/\e=.rt (vI ((min (tw S 1) (g+1)+n:Nat):Int)))/\Bw W r:=by
 have j:=RF h oM g p d;have q:=fun w (o:Bw W w)=>OJ (h.below o) (u.below o) c v;have m:min (tw S 1) (g+1)<=g+1:=aDf _ _;clear p;generalize min (tw S 1) (g+1)=n at j m⊢;go_enter (qz func292),ntmps292;go_wp2_with fail;apply j.mono;rintro e w1 ⟨rfl,a⟩;clear j;go_wp2_with fail;apply(q w1 a).mono;rintro e w2 ⟨⟨k,t,b,rfl⟩,l⟩;clear q;have x:IntKind.i64.wrap ((n:Int)+(k:Int))=((n+k:Nat):Int):=by rw[IntWalk.i64_in _ ⟨oM,oM⟩];omega
 have i:=US b;clear b;go_wp2;go_ret;exact⟨⟨k,t,i.out,rfl⟩,a.tr (l.mono a.size)⟩
def Be(x:Nat)(i:x≠10/\x≠45/\x≠50/\x≠61/\x≠62):
  Cq 292 #[pq f 0,vB (x:Int)] W fun e b=>e=.rt (vI 0)/\b=W:=by
 have a:¬(x:Int)=10:=oM
 have d:¬(x:Int)=45:=oM
 have h:¬(x:Int)=50:=oM
 have c:¬(x:Int)=61:=oM
 have g:¬(x:Int)=62:=oM
 clear i;go_enter (qz func292),ntmps292;go_wp2;go_ret;exact⟨rfl,rfl⟩
def Xt(x:Nat)(S:K4)(g n:Nat):Prop:=n<2199023255552/\(x=61->min (tw S 1) (g+1)+(if tw S 3=0 then 0 else 9000)<=n)/\(x=62->min (tw S 1) (g+1)<=n)
def Bf(h:dT W f F sv mv S X)(r:Mi W C s)(i:F.m=C.mc)(g:Nat)(q:F.bP=(g:Int))(j:g<1099511627776)(p:BM x=some (k,l,c))(m:k<=S.length)(b:x=50->tw S 2<=4294967296):
  Cq 292 #[pq f 0,vB (x:Int)] W fun e d=>(∃n:Nat,Xt x S g n/\e=.rt (vI (n:Int)))/\Bw W d:=by
 by_cases t:x=10\/x=45\/x=50\/x=61\/x=62
 .rcases t with rfl|rfl|rfl|rfl|rfl
  .exact(A8 h (mA p rfl m)).mono fun e d ⟨⟨n,o,b⟩,a⟩=>⟨⟨n,⟨oM,oM,oM⟩,b⟩,a⟩
  .exact(Ba h r i (mA p rfl m)).mono fun e d ⟨⟨n,o,b⟩,a⟩=>⟨⟨n,⟨oM,oM,oM⟩,b⟩,a⟩
  .exact(A9 h (aAw (by decide:2<=3) (mA (S:=S) p rfl m)) (b rfl)).mono fun e d ⟨⟨n,o,b⟩,a⟩=>⟨⟨n,⟨oM,oM,oM⟩,b⟩,a⟩
  .refine(Bd h r i (aAw (by decide:3<=7) (mA (S:=S) p rfl m)) g q j).mono fun e d ⟨⟨n,o,b,h3⟩,a⟩=>⟨⟨_,⟨oM,fun _=>?_,oM⟩,h3⟩,a⟩;split<;>omega
  .exact(Bc h (aAw (by decide:1<=6) (mA (S:=S) p rfl m)) g q j).mono fun e d ⟨o,a⟩=>⟨⟨_,⟨oM,oM,fun _=>aAz _⟩,o⟩,a⟩
 .apply(Be x oM).mono;rintro e d ⟨rfl,rfl⟩;exact⟨⟨0,⟨dC,oM,oM⟩,rfl⟩,Below.refl _ _⟩
def Ge.err(h:Ge W dp li)(g:Nat)(a:g∈[1,2,5,6,7,10]):∃e,W.cell? ⟨g,0,none⟩=some (.iface 407 (.pointer (some e)))/\Eo W dp li e/\g<W.heap.size:=by have⟨e,c,b⟩:=h.er g a;have:=h.lo.1;have:=h.low;exact⟨e,c,b,by simp at a;omega⟩
def q9:∀x,x<256->(BM x).all (fun p=>decide (p.1<=17) && decide (p.2.1<=17) && decide (p.2.2<=32000))=true:=dC
def Bg(a:x<256)(h:BM x=some (k,l,c)):k<=17/\l<=17/\c<=32000:=by have:=q9 x a;rw[h] at this;simpa[and_assoc] using this
def YR(W:WR)(y:SV):Prop:=(y.a=none/\y.n=0/\y.c=0)\/∃g o c,y.a=some ⟨g,o,none⟩/\W.heap[g]?=ob c 5/\∀i,i<y.n->∃b:Nat,b<256/\c[o+i]?=some (.int .u8 b)
def u5:zQ.prog.underlying 5=some (.int .u8):=(aC 5).tr underlying5
def u9:zQ.prog.underlying 9=some .string:=(aC 9).tr underlying9
def Bh:zQ.prog.underlying 31=some (.slice 5):=(aC 31).tr underlying31
def zC(h:YR W y):∃t:Lp,t.size=y.n/\(convert 31 9 (.slice y.a y.n y.c)).run zQ.prog W=.ok (.string t) W:=by
 obtain⟨q,f,m⟩:=y;rcases h with⟨d,e,h3⟩| ⟨g,o,c,d,e,h3⟩
 .simp only at d e h3;subst d e h3;refine⟨⟨#[]⟩,rfl,?_⟩;rw[run_convert_bytes_string W 31 9 5 none 0 0 Bh u5 u9];simp[Conv.bytesToString];rfl
 .simp only at d h3;subst d;have n:∃a:List Int,a.length=f/\∀i,i<f->W.cell? ⟨g,o+i,none⟩=some (.int .u8 (a.getD i 0)):=by
   refine⟨(List.range f).map fun i=>(match c[o+i]? with|some (.int _ b)=>b|_=>0),sI,fun i l=>?_⟩;obtain⟨b,_,j⟩:=h3 i l;rw[aJ e,j];simp[List.getD,l,j]
  obtain⟨a,k,p⟩:=n;exact⟨strOfNums a,(strOfNums_size a).trans k,run_convert_bytes_arg W 31 5 Bh u5 g o f m a k p 9 u9⟩
def sP{a:Nat}(h:a<n)(e:n<=c):(Instr.sliceAt 223 (.slice (some ⟨g,0,none⟩) n c) (some (.int .u64 (a:Int))) none none).run zQ.prog W=.ok (.slice (some ⟨g,a,none⟩) (n - a) (c - a)) W:=by
 have b:¬c=a:=oM
 simp[Instr.sliceAt,Instr.slice,Instr.sliceBounds,Instr.sliceBound,run_underlying VE,asIntOf,b,Addr.add_lit];intro d;omega
def JO(b:0<k)(h:k<=c):(Instr.sliceAt 223 (.slice (some ⟨g,o,none⟩) n c) none (some (.int .u64 (k:Int))) none).run zQ.prog W=.ok (.slice (some ⟨g,o,none⟩) k c) W:=by
 have a:¬c=0:=oM
 simp[Instr.sliceAt,Instr.slice,Instr.sliceBounds,Instr.sliceBound,run_underlying VE,asIntOf,a,Addr.add_lit];intro d;omega
def dT.row(h:dT W f F sv mv S X)(n:0<X.length):∃g cap cur,mv=⟨some ⟨g,0,none⟩,X.length,cap⟩/\aB.b1<=g/\W.heap[g]?=ob cur 5/\X.length<=cap/\cur.size=cap/\∀i,i<X.length->∃b:Nat,b<256/\cur[i]?=some (.int .u8 b):=by
 have⟨q,r,o⟩:=mv;rcases h.me.2 with⟨j,d⟩| ⟨g,cap,cur,j,d,h3,h4,p,m,l⟩
 .omega
 .cases j;refine⟨g,_,cur,rfl,d,h3,h4,by simpa using m,fun i c=>?_⟩;have a:X[i]?=some (X[i]'c):=aAG c;have⟨b,k,e⟩:=h.mb _ (aBf c);refine⟨b,k,?_⟩;rw[e] at a;rw[<-l] at a;rw[aCg oM,aBp] at a;exact a
def zD(h:dT W f F sv mv S X)(a n:Nat)(H:n<M)(J:X.length<1073741824)(D:Wi a n X.length):
   Cq 297 #[.sl mv.a mv.n mv.c,wd a,wd n] W fun e B=>(∃y:SV,e=.rt (.sl y.a y.n y.c)/\YR W y/\y.n=n)/\Bw W B:=by
 have A:=wP n H;have l:Bw W ((W.alloc (.ce (wq a) 41)).alloc (.ce (wq n) 41)):=(ba).tr ((ba).mono sI);by_cases b:n=0
 .rw[decide_eq_true b] at A;have t:=US b;clear b;go_enter (qz func297),ntmps297;go_wp2;go_ret;exact⟨⟨⟨none,0,0⟩,rfl,.inl ⟨rfl,rfl,rfl⟩,t.out.symm⟩,l⟩
 .rw[decide_eq_false b] at A;have j:a+n<=X.length:=D.resolve_left b;have x:0<n:=oM
  obtain⟨g,cap,cur,rfl,I,C,k,E,u⟩:=h.row oM;have z:a<X.length:=oM
  have v:n<=cap - a:=oM
  have s:Shut (aI a 0=(a:Int)):=(eL a oM).1;have r:Shut (aI n 0=(n:Int)):=(eL n oM).1;have m:((W.alloc (.ce (wq a) 41)).alloc (.ce (wq n) 41)).heap[W.heap.size]?=ob (wq a) 41:=aT (aM W _);have o:((W.alloc (.ce (wq a) 41)).alloc (.ce (wq n) 41)).heap[W.heap.size+1]?=ob (wq n) 41:=by have:=aM (W.alloc (.ce (wq a) 41)) (.ce (wq n) 41);simpa using this
  have q:=US j;have w:=US k;clear b j;go_enter (qz func297),ntmps297;go_wp2_with fail;change Code.wp _ _ _ _ ((W.alloc (.ce (wq a) 41)).alloc (.ce (wq n) 41));generalize((W.alloc (.cells (wq a) 41)).alloc (.cells (wq n) 41))=K at l m o⊢;refine rq (fun V=>V.heap[W.heap.size]?=ob (wq a) 41/\V.heap[W.heap.size+1]?=ob (wq n) 41) ⟨m,o⟩ fun c=>?_;refine t2 0 1 c ?_;refine tD 2 12 (vU (a:Int)) (fun V d=>?_) c ?_
  .have p:=aJ (d.1) 0;simp only[aAY,aAP,s.out] at p;clear d c;go_simp
  refine tD 3 13 (.sl (some (ad g a)) (X.length - a) (cap - a)) (fun V d=>?_) c ?_
  .have p:=sP (W:=V) (g:=g) z k;clear d c;go_simp
  refine t1 4 c ?_;refine tD 5 15 (vU (n:Int)) (fun V d=>?_) c ?_
  .have p:=aJ (d.2) 0;simp only[aAY,aAP,r.out] at p;clear d c;go_simp
  refine tD 6 16 (.sl (some (ad g a)) n (cap - a)) (fun V d=>?_) c ?_
  .have p:=JO (W:=V) (g:=g) (o:=a) (n:=X.length - a) x v;clear d c;go_simp
  refine t1 7 c ?_;refine dn ?_;go_wp2;go_ret;exact⟨⟨⟨some ⟨g,a,none⟩,n,cap - a⟩,rfl,.inr ⟨g,a,cur,rfl,C,fun i G=>u (a+i) (by have:=q.out;simp only at G;omega)⟩,rfl⟩,l.drew⟩
def pop(h:1<=S.length):S=S.dropLast++[tw S 1]:=by
 have a:S≠[]:=by intro e;rw[e] at h;simp at h
 conv=>lhs;rw[<-List.dropLast_concat_getLast a]
 congr 2;unfold tw;rw[<-List.getLast?_eq_getElem?,List.getLast?_eq_some_getLast a];rfl
def cN(a:1<=i)(h:i+1<=S.length):tw S.dropLast i=tw S (i+1):=by unfold tw;rw[aAt,List.getElem?_dropLast,if_pos oM,show S.length - 1 - i=S.length - (i+1) by omega]
def gA(h:dT W f F sv mv S X)(d:1<=S.length):
  Cq 296 #[pq f 14] W fun e c=>e=.rt (wd (tw S 1))/\(∃a,dT c f F a mv S.dropLast X)/\Px [225] W c:=by
 have b:=h;rw[pop d] at b;exact Gf b
def JP(h:dT W f F sv mv S X)(i:YR W y):
  Cq 295 #[pq f 0,.sl y.a y.n y.c] W fun e g=>(∃t:Lp,t.size=y.n/\e=.rt (.iface 174 (.agg #[vI F.bP,.string t])))/\Bw W g:=by
 go_enter (qz func295),ntmps295;go_wp2_with fail;refine rq (fun V=>V.heap[f]?=ob (iE F sv mv) 225/\YR V y) ⟨h.fc,i⟩ fun a=>?_;refine t3 0 1 2 a ?_;refine tV 3 (fun _ d=>bq (d.1) 13) a ?_;refine t1 4 a ?_;refine rA 5 fun K k=>?_;have⟨t,c,j⟩:=zC (a.2);go_simp;refine k.out _ _ a fun a=>?_;refine t3 6 7 8 a ?_;refine dn ?_;have b:=US c;clear c;go_wp2;go_ret;exact⟨⟨t,b.out,rfl⟩,bR.drew⟩
def zE(c:W.heap[f]?=ob (iE F sv mv) 225)(g:Fh)(d:vZ):
  Cq 178 #[pq f 0,.iface g d] W fun e i=>e=.rt (.iface 217 (.agg #[vI F.bP,.iface 299 (pq W.heap.size 0)]))/\i.heap[W.heap.size]?=ob #[vI F.self,vI F.place,.iface g d,vI F.bl,vI F.bg,vI F.bb] 303/\Bw W i:=by
 have h:=c;have j:=aG h;go_enter (qz func178),ntmps178;go_wp2_with fail;refine rq (fun V=>V.heap[f]?=ob (iE F sv mv) 225) c fun a=>?_;refine t3 0 1 2 a ?_;refine tV 3 (fun _ b=>bq b 6) a ?_;refine t3 4 5 6 a ?_;refine tV 7 (fun _ b=>bq b 16) a ?_;refine t4 8 9 10 11 a ?_;refine tV 12 (fun _ b=>aq (bq b 1) (aq (bq b 2) (bq b 3))) a ?_;refine t1 13 a ?_;refine rA 14 fun K k=>?_;go_simp;refine k.out _ (W.drew.nc #[vI F.self,vI F.place,.iface g d,vI F.bl,vI F.bg,vI F.bb] 303) (aT a) fun a=>?_;refine t1 15 a ?_;refine dn ?_;have l:=bq h 13;go_wp2;go_ret;exact⟨rfl,aM W.drew _,bR.drew.aL lR _⟩
abbrev TT:K4:=[225,41,5,128,136,262,1000,1001,165,95]
def Gn(W:WR)(C:Kc)(s:St)(f:Nat)(F:fC)(X:K3)(g b:Nat)(a:WR):Prop:=
 ∃d e h j i,∃n c n2:Nat,dT a f {F with bP:=(c:Int),next:=(n2:Int)} d e h j/\j.length=X.length/\h.length<=1024/\n2<2147483712/\Mi a C i/\Ex n s i/\n+c<=g+b/\c<g+b/\Px TT W a
def Fz(W:WR)(f:Nat)(F:fC):Prop:=∃a b c,W.heap[f]?=ob (iE a b c) 225/\a.m=F.m/\a.self=F.self/\a.bl=F.bl/\a.bg=F.bg/\a.bb=F.bb
def En(W:WR)(C:Kc)(s:St)(f:Nat)(F:fC)(g b:Nat)(v:vZ)(a:WR):Prop:=
 ∃d,∃n:Nat,Mi a C d/\Ex n s d/\Px TT W a/\Fz a f F/\((∃(c:Nat) (t:Lp),v=.iface 174 (.agg #[.int .i64 (c:Int),.string t])/\c<=g/\n+c<=g+b+8/\t.size<1073741824)\/
  (∃(i j:Int) (h:Nat) (e:Addr),v=.iface 217 (.agg #[.int .i64 i,.iface 299 (pq h 0)])/\a.heap[h]?=ob #[.int .i64 F.self,.int .i64 j,.iface 407 (.pointer (some e)),.int .i64 F.bl,.int .i64 F.bg,.int .i64 F.bb] 303/\Eo a C.dp C.li e/\n<=g+b+8))
def Dn(W:WR)(C:Kc)(s:St)(f:Nat)(F:fC)(X:K3)(g b:Nat)(e:Ending)(a:WR):Prop:=
 (e=.returned .nilIface/\Gn W C s f F X g b a)\/∃t v,e=.returned (.iface t v)/\En W C s f F g b (.iface t v) a
structure Pd (W:WR)(C:Kc)(s:St)(f:Nat)(F:fC)(sv mv:SV)(S:K4)(X:K3)(g b n2:Nat):Prop where
 fr:dT W f F sv mv S X
 mi:Mi W C s
 fm:F.m=C.mc
 bP:F.bP=(g:Int)
 nx:F.next=(n2:Int)
 nb:n2<2147483712
 sl:S.length<=1024
 xl:X.length<1073741824
 gl:g+b<20000000
 cl:s.c+g+b<90000000
 ml:F.mark.n<2147483648
 dl:F.data.n<=F.data.c/\F.data.n<2147483648
 vl:F.val<M/\Ir F.self
def Gn.plain{a c:SV}{d:K4}{e:K3}(p:Pd W C s f F sv mv S X g b n2)(l:1<=b)(i:dT W' f F a c d e)(k:e.length=X.length)(j:d.length<=1024)(h:Px [225,41,5] W W'):Gn W C s f F X g b W':=by refine⟨a,c,d,e,s,0,g,n2,?_,k,j,p.nb,p.mi.px h dC,.refl s,oM,oM,h.mono dC⟩;rw[<-p.bP,<-p.nx];exact i
def Eo.px{e:Addr}(h:Eo W dp li e)(a:Px T W W')(b:aB.b0<=W.heap.size):Eo W' dp li e:=
 ⟨h.1,h.2.1,h.2.2.1,let⟨c,t,e⟩:=h.2.2.2;⟨c,t,(a.low h.1 (aAy h.1 b)).tr e⟩⟩
def dT.fz(h:dT W f F sv mv S X):Fz W f F:=⟨F,sv,mv,h.fc,rfl,rfl,rfl,rfl,rfl⟩
def Fz.px(h:Fz W f F)(e:Px T W W')(i:225∉T):Fz W' f F:=let⟨g,c,d,a,b⟩:=h;⟨g,c,d,e.row a i,b⟩
def Fz.below(h:Fz W f F)(a:Bw W W'):Fz W' f F:=h.px (Px.aF a []) sI
def En.JQ(d:Mi W C s)(i:Fz W f F)(e:Ex n s0 s)(c:Px TT W0 W)(h:F.bP=(g:Int))(l:n<=b+8)(j:y.n<1073741824)(a:Bw W W'){t:Lp}(k:t.size=y.n):En W0 C s0 f F g b (.iface 174 (.agg #[vI F.bP,.string t])) W':=
 ⟨s,n,d.below a,e,c.tr (Px.aF a _),i.below a,.inl ⟨g,t,by rw[h],aAz _,oM,oM⟩⟩
def En.bad(h:Mi W C s)(p:Fz W f F)(m:Ex n s0 s)(k:Px TT W0 W)(o:n<=g+b+8){c:Addr}(d:Eo W C.dp C.li c){e:Nat}{j i:Int}(a:Bw W W')(l:W'.heap[e]?=ob #[vI F.self,vI j,.iface 407 (.pointer (some c)),vI F.bl,vI F.bg,vI F.bb] 303):En W0 C s0 f F g b (.iface 217 (.agg #[vI i,.iface 299 (pq e 0)])) W':=
 ⟨s,n,h.below a,m,k.tr (Px.aF a _),p.below a,.inr ⟨i,j,e,c,rfl,l,d.px (Px.aF a []) h.ge.low,o⟩⟩
def Qb(p:Pd W C s f F sv mv S X g b n2):Cq 263 #[pq f 0,vB 0] W fun e h=>Dn W C s f F X g b e h:=by have c:=JP p.fr (y:=⟨none,0,0⟩) (.inl ⟨rfl,rfl,rfl⟩);go_enter (qz func263),ntmps263;go_wp2_with fail;apply c.mono;rintro e w1 ⟨⟨t,d,rfl⟩,i⟩;have a:=US d;clear c d;go_wp2;go_ret;exact .inr ⟨_,_,rfl,En.JQ p.mi p.fr.fz (.refl s) (Px.refl _ _) p.bP oM (y:=⟨none,0,0⟩) dC i a.out⟩
def L6(p:Pd W C s f F sv mv S X g b n2)(c:1<=b):Cq 263 #[pq f 0,vB 48] W fun e a=>Dn W C s f F X g b e a:=by go_enter (qz func263),ntmps263;go_wp2;go_ret;exact .inl ⟨rfl,.plain p c p.fr rfl p.sl (Px.refl _ _)⟩
def L8(p:Pd W C s f F sv mv S X g b n2)(l:1<=b)(k:1<=S.length):Cq 263 #[pq f 0,vB 40] W fun e h=>Dn W C s f F X g b e h:=by have a:=gA p.fr k;have j:=aG p.fr.fc;have d:=p.sl;go_enter (qz func263),ntmps263;go_wp2_with fail;apply a.mono;rintro e w1 ⟨rfl,⟨m,i⟩,c⟩;clear a;go_wp2;go_ret;exact .inl ⟨rfl,.plain p l i rfl (by rw[aAt];omega) (c.mono dC)⟩
def xp(p:Pd W C s f F sv mv S X g b n2)(D:1<=b)(v:Nat)(hv:v<M):Cq 298 #[pq f 0,wd v] W fun e B=>Dn W C s f F X g b e B:=by
 have d:Bw W (W.alloc (.ce (wq v) 41)):=ba;have z:=p.fr.below d;have N:=aM W (.ce (wq v) 41);have Z:=p.ml;have r:∀w,Cq 326 #[wd v,vI (F.mark.n:Int)] w fun e B=>(∃a q,e=.rt (.tuple #[vI a,.bool q])/\((q=true/\a=(v:Int)/\v<F.mark.n)\/(q=false/\a=0)))/\Bw w B:=fun w=>by
  apply(OI v F.mark.n hv oM w).mono;rintro e B ⟨⟨z,rfl⟩| ⟨z,rfl⟩,D⟩
  · exact⟨⟨_,_,rfl,.inl ⟨rfl,rfl,z⟩⟩,D⟩
  · exact⟨⟨_,_,rfl,.inr ⟨rfl,rfl⟩⟩,D⟩
 have⟨I,XU,u,y⟩:=p.mi.ge.err 10 dC;go_enter (qz func298),ntmps298;go_wp2_with fail;change Code.wp _ _ _ _ (W.alloc (.ce (wq v) 41));generalize(W.alloc (.cells (wq v) 41))=V1 at d z N⊢;refine rq (fun V=>V.heap[f]?=ob (iE F sv mv) 225/\V.heap[W.heap.size]?=ob (wq v) 41) ⟨z.fc,N⟩ fun i=>?_;refine tV 0 (fun _ G=>q4 (G.2)) i ?_;refine t3 1 2 3 i ?_;refine tV 4 (fun _ G=>bq (G.1) 5) i ?_;refine t1 5 i ?_;refine rA 6 fun K P=>?_;go_simp;apply(r _).mono;rintro e w2 ⟨⟨a,q,rfl,hc⟩,m⟩;go_wp2_with fail;refine P.out _ _ ⟨bk m i.1,bk m i.2⟩ fun i=>?_;refine t5 7 8 9 10 11 i ?_;refine dn ?_;have h:Bw W w2:=d.drew.tr (m.mono d.size);have c:=p.fr.below h;have l:=p.mi.below h;have a1:=(h.cell (p:=(ad 10 0)) y).tr XU;have R:=aG c.fc;have Y:=bq c.fc 5;have JR:=bq c.fc 17;have T:=aQ c.fc 17;clear r;rcases hc with⟨rfl,rfl,j⟩| ⟨rfl,rfl⟩
 · rcases c.ma with h0| ⟨gm,om,cm,e1,L,e3⟩
   · omega
   · have⟨U,E⟩:=e3 v j
     have Q:=aJ L (om+v);rw[E] at Q;have a0:=aG L;rw[e1] at Y;have J:(v:Int)<(F.mark.n:Int):=oM
     have A:=US j;clear j;cases U with
     |false=>
      go_wp2_with fail;apply(zE c.fc 407 (.pointer (some I))).mono;rintro e w3 ⟨rfl,n,o⟩;go_wp2;go_ret;exact .inr ⟨_,_,rfl,En.bad l c.fz (.refl s) (Px.aF h _) oM (u.px (Px.aF h []) p.mi.ge.low) o n⟩
     |true=>
      go_wp2;go_ret;have x:=aO (i:=17) (v:=vI (v:Int)) c.fc;have k:=fU (T:=[225]) c.fc x (aU.setCell w2 f 17 _) (fun t O=>by cases O) dC p.fr.lo;have h3:=c.cells (F':={F with next:=(v:Int)}) x k rfl rfl;have H:Px [225,41,5] W _:=(Px.aF h _).tr (k.mono dC);refine .inl ⟨rfl,sv,mv,S,X,s,0,g,v,?_,rfl,p.sl,by have:=A.out;omega,l.px k dC,.refl s,oM,oM,H.mono dC⟩;rw[<-p.bP];exact h3
 · go_wp2_with fail;apply(zE c.fc 407 (.pointer (some I))).mono;rintro e w3 ⟨rfl,n,o⟩;go_wp2;go_ret;exact .inr ⟨_,_,rfl,En.bad l c.fz (.refl s) (Px.aF h _) oM (u.px (Px.aF h []) p.mi.ge.low) o n⟩
def Dn.from{e:Ending}(h:Dn W C s f F X g b e W')(m:Px TT W0 W):Dn W0 C s f F X g b e W':=by
 rcases h with⟨j,k,l,r,x,u,z,p,n,a,d,c,i,o,q,y,A,w⟩| ⟨t,v,j,k,l,a,d,c,i⟩
 .exact .inl ⟨j,k,l,r,x,u,z,p,n,a,d,c,i,o,q,y,A,m.tr w⟩
 .exact .inr ⟨t,v,j,k,l,a,d,m.tr c,i⟩
def L9(p:Pd W C s f F sv mv S X g b n2)(n:1<=b)(r:1<=S.length):Cq 263 #[pq f 0,vB 46] W fun e l=>Dn W C s f F X g b e l:=by
 have i:=gA p.fr r;have u:=aG p.fr.fc;have q:=p.sl;have c:=eO p.fr 1;go_enter (qz func263),ntmps263;go_wp2_with fail;apply i.mono;rintro e w1 ⟨rfl,⟨d,m⟩,j⟩;clear i;have p2:Pd w1 C s f F d mv S.dropLast X g b n2:=⟨m,p.mi.px j dC,p.fm,p.bP,p.nx,p.nb,by rw[aAt];omega,p.xl,p.gl,p.cl,p.ml,p.dl,p.vl⟩;have k:=xp p2 n (tw S 1) c;go_wp2_with fail;apply k.mono;rintro e w2 h;have a:=h.from (j.mono dC);clear k h;rcases a with⟨rfl,o⟩| ⟨t,v,rfl,w⟩
 .go_wp2;go_ret;exact .inl ⟨rfl,o⟩
 .go_wp2;go_ret;exact .inr ⟨t,v,rfl,w⟩
def RB(W:WR)(y:SV):Prop:=y.n=0\/∃g o,y.a=some ⟨g,o,none⟩/\g<W.heap.size/\∀i,i<y.n->∃b:Nat,b<256/\W.cell? ⟨g,o+i,none⟩=some (.int .u8 b)
def qQ(O:RB W y)(hn:y.n<=32):
   Calls zQ.prog 327 #[.slice y.a y.n y.c] W fun e w'=>(∃x,x<M/\e=.returned (wd x))/\Below W.heap.size W w':=by
 obtain⟨ya,d,yc⟩:=y;unfold RB at O;simp only at O hn⊢;have t:Below W.heap.size W ((W.alloc (.cells wz 41)).alloc (.cells wz 41)):=(ba).trans ((ba).mono sI);have n:((W.alloc (.cells wz 41)).alloc (.cells wz 41)).heap[W.heap.size]?=ob wz 41:=aT (aM W _);have l:((W.alloc (.cells wz 41)).alloc (.cells wz 41)).heap[W.heap.size+1]?=ob wz 41:=by have:=aM (W.alloc (.cells wz 41)) (.cells wz 41);simpa using this
 have aa:P4 wz:=⟨rfl,fun j hj=>by
  have:j=0\/j=1\/j=2\/j=3:=oM
  rcases this with rfl|rfl|rfl|rfl<;>exact⟨0,rfl,dC,dC⟩⟩
 go_enter (qz func327),Tryz.ntmps327;go_wp2_with fail
 change Code.wp _ _ _ _ ((W.alloc (.cells wz 41)).alloc (.cells wz 41));generalize hV:((W.alloc (.cells wz 41)).alloc (.cells wz 41))=V0 at t n l⊢;obtain⟨B,hB⟩:∃B,W.heap.size+1=B:=⟨_,rfl⟩;obtain⟨A,hA⟩:∃A,W.heap.size=A:=⟨_,rfl⟩;rw[hB] at l⊢;rw[hA] at n⊢;clear hV;go_loopw [9] (fun i V=>∃(k:Nat) (c:Ff),i=.int .i64 (k:Int)/\k<=d/\V.heap[B]?=ob c 41/\P4 c/\V.heap[A]?=ob wz 41/\Below W.heap.size W V) (fun i _=>d - (Go.RowKit.intOf i).toNat)
 case atStart=>exact⟨0,_,rfl,Nat.zero_le _,l,aa,n,t⟩
 case round=>
  obtain⟨k,c,rfl,hk,f,p,b,F⟩:=hrel;by_cases L:k<d
  .rcases O with h0| ⟨g,o,J,s,N⟩
   · exact oM
   obtain⟨T,b0,m⟩:=N k L;have b6:=(F.cell (p:=⟨g,o+k,none⟩) s).trans m;have ad:=Nat.lt_of_lt_of_le s F.size;obtain⟨h,D⟩:∃h:Nat,d=h+1+k:=⟨d - 1 - k,oM⟩;obtain⟨q,hq⟩:∃q:Nat,q=h / 8:=⟨_,rfl⟩;obtain⟨r,a0⟩:∃r:Nat,r=h % 8:=⟨_,rfl⟩;obtain⟨G,ac⟩:∃G:Nat,G=r*8:=⟨_,rfl⟩;obtain⟨v,u,hv⟩:=p.2 q oM;obtain⟨z,hz⟩:∃z,IntKind.u64.wrap ((T:Int)*2 ^ min G 64)=z:=⟨_,rfl⟩;have ar:U z:=hz▸bT _;have b4:(q:Int)<4:=oM
   have a1:IntKind.i64.wrap ((d:Int) - 1)=(d:Int) - 1:=IntWalk.i64_in _ ⟨oM,oM⟩;have a2:IntKind.i64.wrap ((d:Int) - 1 - (k:Int))=(h:Int):=by rw[IntWalk.i64_in _ ⟨oM,oM⟩];exact oM
   have a3:(h:Int).tdiv 8=(q:Int):=by rw[Int.tdiv_eq_ediv_of_nonneg oM];exact oM
   have a4:IntKind.i64.wrap (q:Int)=(q:Int):=IntWalk.i64_in _ ⟨oM,oM⟩;have a5:(h:Int).tmod 8=(r:Int):=by rw[Int.tmod_eq_emod_of_nonneg oM];exact oM
   have a6:IntKind.i64.wrap (r:Int)=(r:Int):=IntWalk.i64_in _ ⟨oM,oM⟩;have a7:IntKind.i64.wrap ((r:Int)*8)=(G:Int):=by rw[IntWalk.i64_in _ ⟨oM,oM⟩];exact oM
   have a8:IntKind.u64.wrap (T:Int)=(T:Int):=by rw[IntKind.wrap_u64];exact oM
   have al:(k:Int)<(d:Int):=oM
   have X:=US D;have b3:=US hq;clear D hq a0 ac;subst J;go_wp2_with fail
   refine sk (S:=fun V=>V.heap[B]?=ob c 41) 12 kR f (fun a=>?_);refine tF 0 a ?_;refine tF 1 a ?_;refine tF 2 a ?_;refine tE 3 22 (.int .u64 v) (fun V hW=>?_) a ?_
   .have Z:=aJ hW q;rw[u] at Z;clear hW a;go_simp
   refine tF 4 a ?_;refine tF 5 a ?_;refine tF 6 a ?_;refine tF 7 a ?_;refine tF 8 a ?_;refine tF 9 a ?_;refine tF 10 a ?_;refine tF 11 a ?_;have f0:=aQ (w:=wr.drew) f q;have Z:=aJ (w:=wr.drew) f q;rw[u] at Z;refine rC (fun K hK=>?_);go_simp;refine hK.out _ _ ?_;clear hK K;refine dk kR ?_ _;have w:=X.out;have a9:IntKind.i64.wrap ((k:Int)+1)=((k+1:Nat):Int):=by rw[IntWalk.i64_in _ ⟨oM,oM⟩];exact oM
   have P:=aO (w:=wr.drew) (i:=q) (v:=.int .u64 (bits .or .u64 v z)) f;have H:(wr.drew.setCell ⟨B,q,none⟩ (.int .u64 (bits .or .u64 v z))).heap[A]?=_:=aD (w:=wr.drew) b oM;have Q:Below W.heap.size W (wr.drew.setCell ⟨B,q,none⟩ (.int .u64 (bits .or .u64 v z))):=F.drew.setCell (by show W.heap.size<=B;exact oM) _;clear w;go_wp2;go_roundw
   case rel=>exact⟨k+1,_,rfl,oM,P,p.set q (aj _ _),H,Q⟩
   case measure=>simp[Go.RowKit.intOf];exact oM
  .have b5:¬(k:Int)<(d:Int):=oM
   obtain⟨x,hx,x0,x1,x2,x3⟩:=p.wd;have e0:=aJ f 0;have e1:=aJ f 1;have e2:=aJ f 2;have e3:=aJ f 3;rw[x0] at e0;rw[x1] at e1;rw[x2] at e2;rw[x3] at e3;have b1:=aG f;have b2:=aG b;have I:=bq b 0;have y0:=aQ b 0;have S:=bq b 1;have y1:=aQ b 1;have Y:=bq b 2;have y2:=aQ b 2;have R:=bq b 3;have y3:=aQ b 3;go_wp2;have C:=dV (.int .u64 (aI x 0)) (.int .u64 (aI x 1)) (.int .u64 (aI x 2)) (.int .u64 (aI x 3)) b;have E:Below W.heap.size W ((((wr.setCell ⟨A,0,none⟩ (.int .u64 (aI x 0))).setCell ⟨A,1,none⟩ (.int .u64 (aI x 1))).setCell ⟨A,2,none⟩ (.int .u64 (aI x 2))).setCell ⟨A,3,none⟩ (.int .u64 (aI x 3))):=by
     refine Below.setCell (Below.setCell (Below.setCell (Below.setCell F ?_ _) ?_ _) ?_ _) ?_ _<;>(show W.heap.size<=A;exact oM)
   clear I S Y R;generalize((((wr.setCell ⟨A,0,none⟩ (.int .u64 (aI x 0))).setCell ⟨A,1,none⟩ (.int .u64 (aI x 1))).setCell ⟨A,2,none⟩ (.int .u64 (aI x 2))).setCell ⟨A,3,none⟩ (.int .u64 (aI x 3)))=V5 at C E⊢;obtain⟨I,S,Y,R⟩:=q4 C;simp[bodyPost,results,Tryz.results327,go_sem,I,S,Y,R];exact⟨⟨x,hx,rfl,rfl,rfl,rfl⟩,by rw[<-hA];exact E⟩
def qC(l:K3):Prop:=∀v∈l,∃b:Nat,b<256/\v=.int .u8 b
def qC.app{a b:K3}(d:qC a)(e:qC b):qC (a++b):=fun v c=>(aAL.1 c).elim (d v) (e v)
def qC.one{l:K3}(h:qC l):∀v∈l,v.oneCell'=true:=fun v a=>by obtain⟨b,_,rfl⟩:=h v a;rfl
def s5:(zQ.prog.info? 5).map (·.size)=some 1:=kR
def qC.Lu{cur b:K3}(h:qC cur)(c:qC b)(o k:Nat):qC (cur.take o++b++cur.drop k):=
 qC.app (qC.app (fun v a=>h v (aCu a)) c) fun v a=>h v (List.mem_of_mem_drop a)
abbrev laid(cur:Ff)(o:Nat)(cs:K3):Ff:=(cur.toList.take o++cs++cur.toList.drop (o+cs.length)).toArray
def RG(s:Lp)(p:zQ.prog.underlying u=some (.slice 5))(l:W.heap[g]?=ob cur t)(r:o+n<=cur.size):
  ∃(v:vZ) (a:K3),(Builtin.copy_ #[u,9] ty #[.slice (some ⟨g,o,none⟩) n c,.string s]).run zQ.prog W=.ok v (W.setRow g (laid cur o a))/\a.length<=n/\qC a:=by
 obtain⟨a,e⟩:∃a,a=((s.extract 0 (Nat.min s.size n)).data.map fun b=>Value.int .u8 b.toNat).toList:=⟨_,rfl⟩;have f:qC a:=fun v k=>by rw[e,Array.toList_map] at k;obtain⟨b,_,rfl⟩:=aAJ.1 k;exact⟨b.toNat,b.toNat_lt,rfl⟩
 have m:a.length<=n:=by rw[e];simp[ByteArray.data_extract];exact aDf _ _
 have d:=run_storeCells_at (P:=zQ.prog) g o t a 0 cur W l sQ0 f.one;simp only[aBd] at d;have j:∃i,zQ.prog.info? 5=some i/\i.size=1:=by
  cases h:zQ.prog.info? 5 with
  |none=>have:=s5;rw[h] at this;cases this
  |some i=>have:=s5;rw[h] at this;exact⟨i,rfl,by simpa using this⟩
 have⟨i,j,q⟩:=j;refine⟨goInt (Nat.min s.size n),a,?_,m,f⟩;rw[e] at d⊢;simp[Builtin.copy_,run_underlying p,Builtin.lenOf,Builtin.firstCells,sizeOf,typeInfo,j,laid];simp at d;rw[d];rfl
def VI(s:Lp)(f:W.heap[g]?=ob cur t)(e:qC cur.toList)(b:o+n<=cur.size):
  ∃(v:vZ) (a:Ff),(Builtin.copy_ #[31,9] ty #[.slice (some ⟨g,o,none⟩) n c,.string s]).run zQ.prog W=.ok v (W.setRow g a)/\a.size=cur.size/\qC a.toList:=by
 have⟨v,i,d,h,h3⟩:=RG (c:=c) (ty:=ty) s Bh f b;exact⟨v,_,d,by simp;omega,qC.Lu e h3 o _⟩
def RH(D:RB W y)(C:zQ.prog.underlying u=some (.slice 5))(A:W.heap[g]?=ob cur t)(H:o+n<=cur.size):
  ∃(v:vZ) (d:K3),(Builtin.copy_ #[u,sT] ty #[.slice (some ⟨g,o,none⟩) n c,.slice y.a y.n y.c]).run zQ.prog W=.ok v (W.setRow g (laid cur o d))/\d.length<=n/\qC d:=by
 obtain⟨F,f,z⟩:=y;have key:∀a:Addr,(∀i,i<f->∃b:Nat,b<256/\W.cell? (a.add i)=some (.int .u8 b))->∃(v:vZ) (d:K3),(Builtin.copy_ #[u,sT] ty #[.slice (some ⟨g,o,none⟩) n c,.slice (some a) f z]).run zQ.prog W=.ok v (W.setRow g (laid cur o d))/\d.length<=n/\qC d:=fun a E=>by
  obtain⟨d,w,l⟩:∃d:K3,d.length=Nat.min f n/\∀j v,d[j]?=some v->W.cell? (a.add j)=some v/\∃b:Nat,b<256/\v=.int .u8 b:=by
   refine⟨(List.range (Nat.min f n)).map fun i=>(W.cell? (a.add i)).getD (.int .u8 0),sI,fun j v e=>?_⟩;rw[List.getElem?_map] at e;by_cases r:j<Nat.min f n
   .rw[List.getElem?_range r] at e;obtain⟨b,q,p⟩:=E j (Nat.lt_of_lt_of_le r (Nat.min_le_left _ _));simp[p] at e;exact⟨e▸p,b,q,e.symm⟩
   .rw[List.getElem?_eq_none (by simpa using r)] at e;cases e
  have m:qC d:=fun v s=>by
   obtain⟨j,e⟩:=List.getElem?_of_mem s;exact(l j v e).2
  have J:Nat.min f n<=n:=Nat.min_le_right _ _;exact⟨_,d,run_copy_row (P:=zQ.prog) W u sT ty 5 g o n c a f z cur t d C s5 A w (fun j v e=>(l j v e).1) oM m.one,oM,m⟩
 rcases D with x| ⟨G,I,B,_,h3⟩
 .simp only at x;subst x;cases F with
  |some a=>exact key a (fun i k=>oM)
  |none=>
   have k:∃i,zQ.prog.info? 5=some i:=by
    cases h:zQ.prog.info? 5 with
    |none=>have:=s5;rw[h] at this;cases this
    |some i=>exact⟨i,rfl⟩
   obtain⟨i,k⟩:=k;refine⟨goInt 0,[],?_,Nat.zero_le _,fun v s=>by cases s⟩;have:laid cur o []=cur:=by simp[laid]
   rw[this,setRow_self W g cur t (0,0) A];simp[Builtin.copy_,run_underlying C,Builtin.lenOf,Builtin.firstCells,sizeOf,typeInfo,k,storeCells]
 .simp only at B h3;subst B;refine key _ fun i k=>?_;obtain⟨b,q,p⟩:=h3 i k;exact⟨b,q,by rw[Addr.add_mid];exact p⟩
def VJ(d:RB W y)(f:zQ.prog.underlying u=some (.slice 5))(i:W.heap[g]?=ob cur t)(h:qC cur.toList)(b:o+n<=cur.size):
  ∃(v:vZ) (a:Ff),(Builtin.copy_ #[u,sT] ty #[.slice (some ⟨g,o,none⟩) n c,.slice y.a y.n y.c]).run zQ.prog W=.ok v (W.setRow g a)/\a.size=cur.size/\qC a.toList:=by
 obtain⟨v,k,e,j,h3⟩:=RH (c:=c) (ty:=ty) (sT:=sT) d f i b;exact⟨v,_,e,by simp;exact oM,qC.Lu h h3 o _⟩
end
end Go.Mark
