import Derived.Deep.Upon
import Derived.Test.YtbephahokhnccaaGreatDoorJ10
set_option linter.all false
set_option maxRecDepth 100000
set_option maxHeartbeats 8000000
namespace Go.Mark
open Go.RowKit Go.Proofs Go.Proofs.Tryz
variable{a:Ac}{c:Ff}{dm:Dm}{cr i k:Int}{q:Int×Nat×Ac}{L:List (Int×Nat×Ac)}{X:K4}{T:List Fh}{J J1 xs J' rs J2:K3}{l m d b B N n f n' mc r:Nat}{lv:SV}{t:Fh}{W w W' w':WR}
section
variable [aB]
attribute [local go_sem] wd
def xw(v:vZ)(w:WR):(Instr.typeAssert (.iface 174 v) 116 174 true).run zQ.prog w=.ok (.tuple #[v,.bool true]) w:=kR
def WA(v:vZ)(w:WR):(Instr.typeAssert (.iface 217 v) 116 174 true).run zQ.prog w=.ok (.tuple #[.agg #[.int .i64 0,.string ⟨#[]⟩],.bool false]) w:=kR
def WB(v:vZ)(w:WR):(Instr.typeAssert (.iface 217 v) 116 177 true).run zQ.prog w=.ok (.tuple #[.agg #[.int .i64 0,.int .i64 0],.bool false]) w:=kR
def Cn(a:Bool)(b:Int)(s:Lp)(lv:SV:=⟨none,0,0⟩):Ff:=#[.bool a,.int .i64 b,.int .i64 0,.slice lv.a lv.n lv.c,.string s]
def pQ(B:Nat)(lv:SV)(N:Nat)(xs:K3)(w:WR):Prop:=lv.n=N/\(0<N->∃a cap c,lv=⟨some ⟨a,0,none⟩,N,cap⟩/\B<=a/\w.heap[a]?=ob c 95/\∀(i:Nat) v,xs[i]?=some v->c[i]?=some v)
def pQ.mono{B':Nat}(h:pQ B lv N xs w)(d:B'<=B):pQ B' lv N xs w:=⟨h.1,fun f=>let⟨e,cap,c,b,a,h3⟩:=h.2 f;⟨e,cap,c,b,aAw d a,h3⟩⟩
def pQ.below(h:pQ B lv N xs w)(d:Bw w w'):pQ B lv N xs w':=⟨h.1,fun f=>let⟨e,cap,c,b,a,h3,h4⟩:=h.2 f;⟨e,cap,c,b,a,bk d h3,h4⟩⟩
def pQ.jA{a:Nat}{cr:Ff}(h:pQ B lv N xs w)(b:aU [a] [] w w')(e:w.heap[a]?=ob cr 34):pQ B lv N xs w':=⟨h.1,fun i=>let⟨g,cap,c,f,d,h3,h4⟩:=h.2 i;⟨g,cap,c,f,d,b.obj h3 (by simp[qB]) (by simpa using dP h3 e dC),h4⟩⟩
def pQ.none(B:Nat)(w:WR):pQ B ⟨none,0,0⟩ 0 [] w:=⟨rfl,fun h=>absurd h dC⟩
def ic(v:vZ)(mc:Nat)(W:WR):
  Cq 53 #[pq mc 0,.iface 217 v] W fun e w'=>e=.rt (.agg (Cn false 0 ⟨#[]⟩))/\Bw W w':=by
 have b:=WA;have a:=WB;go_enter (qz func53),ntmps53;go_wp2;simp[bodyPost,results,results53,go_sem,Cn];exact ba
def WC{j d:Int}{lg:SV}(G:W.heap[mc]?=ob (aZ l lg j d) 165)(g:Int)(s:Lp)(F:∀V,Bw W V->Cq 93 #[pq mc 0] V fun e w'=>∃lv:SV,e=.rt (.sl lv.a lv.n lv.c)/\Bw V w'/\pQ V.heap.size lv N xs w'):
  Cq 53 #[pq mc 0,.iface 174 (.agg #[vI g,.string s])] W fun e w'=>∃lv:SV,e=.rt (.agg (Cn true 0 s lv))/\Bw W w'/\pQ W.heap.size lv N xs w':=by
 have v:=US F;clear F;have O:=xw;have f:Bw W ((W.alloc (.ce rZ 34)).alloc (.ce #[vI g,.string s] 174)):=(ba).alloc sI _;have t:((W.alloc (.ce rZ 34)).alloc (.ce #[vI g,.string s] 174)).heap[W.heap.size]?=ob rZ 34:=aT (aM W _);have n:((W.alloc (.ce rZ 34)).alloc (.ce #[vI g,.string s] 174)).heap[W.heap.size+1]?=ob #[vI g,.string s] 174:=by have:=aM (W.alloc (.ce rZ 34)) (.ce #[vI g,.string s] 174);simpa using this
 have m:((W.alloc (.ce rZ 34)).alloc (.ce #[vI g,.string s] 174)).heap[mc]?=_:=aT (aT G);have I:=aG G;go_enter (qz func53),ntmps53;go_wp2_with fail;change Code.wp _ _ _ _ ((W.alloc (.ce rZ 34)).alloc (.ce #[vI g,.string s] 174));generalize(W.alloc (.cells #[.bool false,.int .i64 0,.int .i64 0,.slice none 0 0,.string ⟨#[]⟩] 34)).alloc (.cells #[.int .i64 g,.string s] 174)=w1 at f t n m⊢;refine rq (fun V=>V.heap[mc]?=ob (aZ l lg j d) 165/\V.heap[W.heap.size+1]?=ob #[vI g,.string s] 174) ⟨m,n⟩ fun i=>?_;refine t2 0 2 i ?_;refine tV 3 (fun _ H=>bq H.2 1) i ?_;refine rA 1 fun K o=>?_;go_simp;apply(v.out _ f.drew).mono;rintro e k ⟨lv,rfl,b,u⟩;have a:k.heap[W.heap.size]?=_:=bk b t;have B:Bw W k:=f.drew.tr (b.mono f.size);have D:=bk b m;have E:=bk b n;have x:pQ W.heap.size lv N xs k:=u.mono f.size;go_wp2_with fail;refine o.out _ _ ⟨bk b i.1,bk b i.2⟩ fun i=>?_;clear o K b u v;refine rA 4 fun K o=>?_;go_simp;refine o.out _ _ i fun i=>?_;have w:=bq a 0;have R:=aQ a 0;have z:=bq a 1;have M:=aQ a 1;have y:=bq a 2;have J:=aQ a 2;have A:=bq a 3;have Q:=aQ a 3;have C:=bq a 4;have L:=aQ a 4;refine rA 5 fun K o=>?_;go_simp;have h:mc≠W.heap.size:=oM
 refine o.out _ _ ⟨aD (aD (aD (aD (aD D h) h) h) h) h,aD (aD (aD (aD (aD E oM) oM) oM) oM) oM⟩ fun i=>?_;refine dn ?_;have c:=aO (i:=4) (v:=.string s) (aO (i:=3) (v:=.sl lv.a lv.n lv.c) (aO (i:=2) (v:=vI 0) (aO (i:=1) (v:=vI 0) (aO (i:=0) (v:=.bool true) a))));have r:=((((B.setCell (p:=(ad W.heap.size 0)) (by exact aAz _) (.bool true)).setCell (p:=(ad W.heap.size 1)) (by exact aAz _) (vI 0)).setCell (p:=(ad W.heap.size 2)) (by exact aAz _) (vI 0)).setCell (p:=(ad W.heap.size 3)) (by exact aAz _) (.sl lv.a lv.n lv.c)).setCell (p:=(ad W.heap.size 4)) (by exact aAz _) (.string s);have q:aU [W.heap.size] [] k (((((k.setCell ⟨W.heap.size,0,none⟩ (.bool true)).setCell ⟨W.heap.size,1,none⟩ (vI 0)).setCell ⟨W.heap.size,2,none⟩ (vI 0)).setCell ⟨W.heap.size,3,none⟩ (.sl lv.a lv.n lv.c)).setCell ⟨W.heap.size,4,none⟩ (.string s)):=((((aU.setCell k W.heap.size 0 _).tr (aU.setCell _ W.heap.size 1 _)).tr (aU.setCell _ W.heap.size 2 _)).tr (aU.setCell _ W.heap.size 3 _)).tr (aU.setCell _ W.heap.size 4 _);have p:=x.jA q a;clear q;generalize((((k.setCell ⟨W.heap.size,0,none⟩ (.bool true)).setCell ⟨W.heap.size,1,none⟩ (.int .i64 0)).setCell ⟨W.heap.size,2,none⟩ (.int .i64 0)).setCell ⟨W.heap.size,3,none⟩ (.slice lv.a lv.n lv.c)).setCell ⟨W.heap.size,4,none⟩ (.string s)=P at c r p i⊢;clear w z y A C;have w:=bq c 0;have z:=bq c 1;have y:=bq c 2;have A:=bq c 3;have C:=bq c 4;go_wp2;simp[bodyPost,results,results53,go_sem,w,z,y,A,C];exact⟨lv,rfl,r,p⟩
structure Rs where
 cB:Bool
 s:Lp
 left:Int
 back:Int
 k:Int
 N:Nat
 xs:K3
def Ic(S:K6):Prop:=∀w w',S w->Below w.heap.size w w'->S w'
def Kp(B:Nat)(w w':WR):Prop:=w.heap.size<=w'.heap.size/\∀(k:Nat) (c:Ff) (t:Fh),B<=k->(t=43\/t=34)->w.heap[k]?=ob c t->w'.heap[k]?=ob c t
def Kp.jA(h:aU X T w w')(g:∀k∈X,k<B)(b:43∉T)(a:34∉T):Kp B w w':=
 ⟨h.size,fun k c t i f d=>h.obj d (by rcases f with rfl|rfl;exact b;exact a) (fun e=>by have:=g k e;omega)⟩
def Kq(B:Nat)(w w':WR):Prop:=Kp B w w'/\∀(k:Nat) (c:Ff),B<=k->w.heap[k]?=ob c 95->w'.heap[k]?=ob c 95
def Kq.jA(h:aU X T w w')(f:∀k∈X,k<B)(d:43∉T)(a:34∉T)(b:95∉T):Kq B w w':=⟨Kp.jA h f d a,fun k c i g=>h.obj g b (fun e=>by have:=f k e;omega)⟩
def fV(w:WR)(b i:Nat)(v:vZ)(a:Addr)(h:a.block≠b):(w.setCell ⟨b,i,none⟩ v).cell? a=w.cell? a:=by simp only[World.cell?,heap_setCell_other w ⟨b,i,none⟩ a.block v h]
def Rn(f:Nat)(a:vZ->K6):Nat->K6
 |0,_=>False
 |n+1,W=>Calls zQ.prog 224 #[pq f 0] W fun e w'=>(∃t v,e=.returned (.iface t v)/\a (.iface t v) w')\/(e=.returned .nilIface/\Rn f a n w')
theorem DN{P:K5}{c:Code}{Q:Fg}{I:Nat->Fi}(b:∀a w,¬I 0 a w)(d:∀n,(∀a w,I n a w->Code.rounds P c Q n a w)->∀a w,I (n+1) a w->Code.rounds P c Q (n+1) a w):∀n a w,I n a w->Code.rounds P c Q n a w
 |0,a,w,h=>absurd h (b a w)
 |n+1,a,w,h=>d n (DN b d n) a w h
def Cz{b:vZ->K6}(n:Nat)(W:WR)(h:Rn f b n W):
  Cq 180 #[pq f 0] W fun e w'=>∃t v,e=.rt (.iface t v)/\b (.iface t v) w':=by
 go_enter (qz func180),ntmps180;go_wp2_with fail;refine wp_loop_rounds n ?_;refine DN (I:=fun n a w=>∃g v4 i v6 j l:vZ,a=⟨#[pq f 0,ud,.nilIface,g,v4,i,v6,j,l],[]⟩/\Rn f b n w) ?_ ?_ n _ _ ⟨_,_,_,_,_,_,rfl,h⟩
 .rintro a w ⟨_,_,_,_,_,_,_,h⟩;exact h
 .clear h W;rintro n k a w ⟨g,v4,i,v6,j,l,rfl,h⟩;have d:=US k;clear k;rw[rounds_succ];go_wp2_with fail;refine Calls.mono h ?_;rintro e w1 (⟨t,v,rfl,c⟩| ⟨rfl,m⟩)
  .go_wp2;go_ret;exact⟨t,v,rfl,c⟩
  .go_wp2_with fail;exact d.out _ _ ⟨_,_,_,_,_,_,rfl,m⟩
def WH{c:Ac}(h:∀q∈L,q.2.1≠b):fG (L++[(k,b,a)]) b c=L++[(k,b,c)]:=by
 unfold fG;rw[aBc];congr 1
 .conv=>rhs;rw[<-List.map_id L]
  refine aBO fun q d=>?_;rw[if_neg (h q d)];rfl
 .simp
def tz(h:LG W l m dm cr L J)(k:Int)(w:k∉L.map (·.1))(x:Nat)(I:x<M)(hJ:J.length+1<100000000):
  Cq 94 #[pq l 0,vI k,wd x] W fun e w'=>e=.returned (.tuple #[])/\(∃F ms,W.heap.size<=F/\LG w' l m dm cr (L++[(k,F,⟨x,0,⟨#[]⟩,⟨none,0,0⟩,ms,[]⟩)]) (J++[Fy k]++[kH F 0]))/\aU [l,m] [262] W w':=by
 have o:Bw W (W.alloc (.cells (wq x) 41)):=ba;have G:=h.below o;have E:=aM W (.cells (wq x) 41);have i:=CY G k w oM;have U:=h.map.lt;have T:=h.cell0.1;go_enter (qz func94),Tryz.ntmps94;go_wp2_with fail;refine i.mono ?_;rintro e w1 ⟨rfl,b,s⟩;clear i;have X:w1.heap[W.heap.size]?=_:=s.obj E (by show(41:Nat)∉[262];decide) (by simp;exact oM);have C:aU [l,m] [262] W w1:=(aU.aF o _ _).trans s;have y:(W.alloc (.cells (wq x) 41)).heap.size=W.heap.size+1:=sI
 simp only[y] at b⊢;obtain⟨q,a⟩:∃q:Int×Nat×Ac,q=(k,W.heap.size+1+1,⟨0,0,⟨#[]⟩,⟨none,0,0⟩,W.heap.size+1,[]⟩):=⟨_,rfl⟩;have H:q∈L++[(k,W.heap.size+1+1,⟨0,0,⟨#[]⟩,⟨none,0,0⟩,W.heap.size+1,[]⟩)]:=by rw[a];simp
 have f:q.2.1=W.heap.size+1+1:=by rw[a]
 rw[<-f];have A:q.2.2.bal<M:=by rw[a];show 0<M;decide
 have Y:(q.2.2.bal+x) % M<M:=aBE _ dC;have j:=US a;have N:W.heap.size+1<q.2.1:=oM
 clear a f;have g:=b.acc q H;have a0:=aG g;obtain⟨P,R,c2,c3⟩:=q4 g;have Z:=b.cell0.1;go_wp2_with fail;refine rq (fun V=>V.heap[W.heap.size]?=ob (wq x) 41) X fun d=>?_;refine t5 0 1 2 3 4 d ?_;refine tV 6 (fun _ O=>q4 O) d ?_;refine rA 5 fun K p=>?_;go_simp;refine p.out _ _ d fun d=>?_;clear P R c2 c3;refine rA 7 fun K p=>?_;go_simp;refine(add q.2.2.bal x A I _).mono ?_;rintro e Q ⟨rfl,t⟩;go_wp2_with fail;refine p.out _ _ (bk t d) fun d=>?_;have u:Bw w1 Q:=bR.drew.trans t;have D:=b.below u;refine rA 8 fun K p=>?_;go_simp;refine(mV D H ((q.2.2.bal+x) % M) Y (by simp;exact oM)).mono ?_;rintro e W2 ⟨rfl,c,r⟩;go_wp2_with fail;refine p.out _ _ (r.obj d (by show(41:Nat)∉[262];decide) (by simp;exact oM)) fun d=>?_;refine dn ?_;show bodyPost zQ.prog Tryz.f94 _ Exit.normal _ _;simp[bodyPost,results,Tryz.results94,go_sem];have a:=j.out;have v:∀z∈L,z.2.1≠q.2.1:=fun z S e=>by have:=aG (h.acc z S);exact oM
 have n:q.2.2.bal=0:=by rw[a]
 have B:(q.2.2.bal+x) % M=x:=by rw[n,aAM];exact aBS I
 rw[B,n] at c;rw[a] at c v;rw[WH v] at c;refine⟨⟨W.heap.size+1+1,oM,W.heap.size+1,by simpa using c⟩,(C.trans (.aF u _ _)).xh r (fun k w=>?_)⟩;simp only[aAx,aAC,or_false] at w;rcases w with rfl|rfl
 .exact .inl sI
 .exact .inr oM
def WI(h:LG W l m dm cr L J)(P:q∈L)(c:Int)(F:c∉L.map (·.1))(b nonce:Int)(val g p left k:Nat)(o:g=left+k)(U:g<=1000000)(A:p<=1000000)(hJ:J.length+2<100000000):
  Cq 54 #[pq l 0,.agg (fH q.1 b nonce val g p c),vI (left:Int),vI 0] W fun e w'=>e=.returned (vI (k:Int))/\(∃z ms J',W.heap.size<=z/\LG w' l m dm cr (fG L q.2.1 {q.2.2 with bal:=(q.2.2.bal+left*p) % M}++[(c,z,⟨k*p,0,⟨#[]⟩,⟨none,0,0⟩,ms,[]⟩)]) J')/\aU [l,q.2.1,m] [262] W w':=by
 have y:p<100000000:=oM
 have u:left<100000000:=oM
 have N:left*p<M:=aAy (aBJ u y) dC;have n:k<100000000:=oM
 have H:k*p<M:=aAy (aBJ n y) dC;have f:Bw W (W.alloc (.cells (fH q.1 b nonce val g p c) 43)):=ba;have S:=aM W (.cells (fH q.1 b nonce val g p c) 43);have Q:=h.below f;have Z:=h.cell0.1;have T:=aG (h.acc q P);have i1:IntKind.i64.wrap ((g:Int) - (left:Int))=(k:Int):=by rw[show(g:Int) - (left:Int)=(k:Int) by exact oM];exact iW
 have i2:IntKind.i64.wrap (k:Int)=(k:Int):=iW;have i3:IntKind.i64.wrap ((g:Int) - (k:Int))=(left:Int):=by rw[show(g:Int) - (k:Int)=(left:Int) by exact oM];exact iW
 clear o U A;have a0:min (0:Int) ((k:Int) / 2)=0:=by exact oM
 go_enter (qz func54),Tryz.ntmps54;unfold fH;go_wp2_with fail;change Code.wp _ _ _ _ (W.alloc (.cells (fH q.1 b nonce val g p c) 43));generalize W.alloc (.cells (fH q.1 b nonce val g p c) 43)=w1 at f S Q⊢;refine rq (fun V=>V.heap[W.heap.size]?=ob (fH q.1 b nonce val g p c) 43) S fun a=>?_;refine t2 0 1 a ?_;refine tV 2 (fun _ d=>bq d 0) a ?_;refine t1 3 a ?_;refine tV 4 (fun _ d=>bq d 7) a ?_;refine t3 5 6 7 a ?_;refine tV 8 (fun _ d=>bq d 8) a ?_;refine rA 9 fun K j=>?_;go_simp;refine(jH left p u y _).mono ?_;rintro e X ⟨rfl,v⟩;go_wp2_with fail;refine j.out _ _ (bk v a) fun a=>?_;have w:Bw w1 X:=bR.drew.trans v;have D:=Q.below w;refine rA 10 fun K j=>?_;go_simp;refine(ag D P (left*p) N oM).mono ?_;rintro e Y ⟨rfl,I,r⟩;go_wp2_with fail;refine j.out _ _ (r.obj a (by show(43:Nat)∉[262];decide) (by simp;exact oM)) fun a=>?_;refine dn ?_;go_wp2_with fail;refine rq (fun V=>V.heap[W.heap.size]?=ob (fH q.1 b nonce val g p c) 43) a fun a=>?_;refine t2 0 1 a ?_;refine tV 2 (fun _ d=>bq d 10) a ?_;refine t2 3 4 a ?_;refine tV 5 (fun _ d=>bq d 8) a ?_;refine rA 6 fun K j=>?_;go_simp;refine(jH k p n y _).mono ?_;rintro e O ⟨rfl,i⟩;go_wp2_with fail;refine j.out _ _ (bk i a) fun a=>?_;have x:Bw Y O:=bR.drew.trans i;have E:=I.below x;refine rA 7 fun K j=>?_;go_simp;refine(tz E c (by rw[lU];exact F) (k*p) H (by simp;exact oM)).mono ?_;rintro e V4 ⟨rfl,⟨z,ms,G,B⟩,s⟩;go_wp2_with fail;refine j.out _ _ (s.obj a (by show(43:Nat)∉[262];decide) (by have:=h.map.lt;simp;exact oM)) fun a=>?_;refine dn ?_;go_wp2;go_ret;have R:aU [l,q.2.1,m] [262] W O:=aU.trans (.aF (f.trans (w.mono f.size)) _ _) (aU.trans (r.mono (fun k _ o=>by simp at o;simp;exact oM) (fun t C=>C)) (.aF x _ _));exact⟨rfl,⟨z,ms,_,aAw R.size G,B⟩,R.trans (s.mono (fun k _ o=>by simp at o;simp;exact oM) (fun t C=>C))⟩
end
section
variable [aB]
structure Av where
 bal:Nat
 nonce:Int
 code:Lp
 mark:SV
 ms:Nat
 sl:Nat->Nat
def av(a:Ac):Av:=⟨a.bal,a.nonce,a.code,a.mark,a.ms,iV a.sl⟩
abbrev AM:=Int->Option (Nat×Av)
abbrev AL:=List (Int×Nat×Ac)
def am:AL->AM
 | [],_=>none
 |q::L,i=>if i=q.1 then some (q.2.1,av q.2.2) else am L i
def up(A:AM)(i:Int)(x:Option (Nat×Av)):AM:=fun j=>if j=i then x else A j
def dN(A:AM)(i:Int)(x:Option (Nat×Av)):up A i x i=x:=if_pos rfl
def oH(A:AM)(i:Int)(x y:Option (Nat×Av)):up (up A i x) i y=up A i y:=by funext j;unfold up;split<;>rfl
def QS{A:AM}{x:Option (Nat×Av)}(h:A i=x):up A i x=A:=by
 funext j;unfold up;split
 .rename_i e;rw[e,h]
 .rfl
def fR{L:AL}{v:Av}(h:am L i=some (b,v)):∃q∈L,q.1=i/\q.2.1=b/\av q.2.2=v:=by
 induction L with
 |nil=>cases h
 |cons q L c=>
  unfold am at h;split at h
  .rename_i e;cases h;exact⟨q,aAQ,e.symm,rfl,rfl⟩
  .have⟨p,a,h⟩:=c h;exact⟨p,aAR _ a,h⟩
def pD{L:AL}:am L i=none ↔ i∉L.map (·.1):=by
 induction L with
 |nil=>simp[am]
 |cons q L a=>
  unfold am;simp only[aBl,aAx,not_or];split
  .rename_i e;simp[e]
  .rename_i e;rw[a];exact⟨fun h=>⟨e,h⟩,fun h=>h.2⟩
def yT{L:AL}(f:(L.map (·.1)).Nodup)(b:q∈L):am L q.1=some (q.2.1,av q.2.2):=by
 induction L with
 |nil=>cases b
 |cons r L d=>
  have a:=aBt.1 f;unfold am;rcases aAx.1 b with rfl|b
  .simp
  .have c:q.1≠r.1:=fun e=>a.1 (by show r.1∈_;rw[<-e];exact aAI (f:=fun x:Int×Nat×Ac=>x.1) b);rw[if_neg c];exact d a.2 b
def yU{L:AL}(f:(L.map (·.1)).Nodup)(h:(L.map (·.2.1)).Nodup)(g:q∈L)(a:Ac):am (fG L q.2.1 a)=up (am L) q.1 (some (q.2.1,av a)):=by
 funext j;unfold up;by_cases e:j=q.1
 .subst e;rw[if_pos rfl];have:=yT (by rw[lU];exact f) (lV g a);exact this
 .rw[if_neg e];by_cases b:j∈L.map (·.1)
  .obtain⟨r,d,rfl⟩:=aAJ.1 b;have c:r.2.1≠q.2.1:=fun i=>e (by rw[oE h d g i]);rw[yT (by rw[lU];exact f) (vR d c a),yT f d]
  .rw[pD.2 b,pD.2 (by rw[lU];exact b)]
def Am{L:AL}(f:k∉L.map (·.1)):am (L++[(k,b,a)])=up (am L) k (some (b,av a)):=by
 funext j;unfold up;induction L with
 |nil=>rfl
 |cons r L g=>
  simp only[aBl,aAx,not_or] at f;simp only[aBi,am];rw[g f.2];by_cases c:j=r.1
  .rw[if_pos c,if_neg (fun e=>f.1 (e.symm.tr c)),if_pos c]
  .rw[if_neg c];by_cases d:j=k
   .rw[if_pos d,if_pos d]
   .rw[if_neg d,if_neg d,if_neg c]
def LF(W:WR)(l m d:Nat)(cr:Int)(A:AM)(D:K7)(J:K3):Prop:=
 ∃L dl,LG W l m ⟨d,dl⟩ cr L J/\am L=A/\(∀i,i∈dl ↔ D i)/\∀q∈L,∀p∈q.2.2.sl,p.2≠0
abbrev LT:K4:=[128,136,262,1000,1001]
def pE{a:Type}{d:a->vZ}{x:List (a×vZ)}(h:cR d W r x):kd W.heap[r]?=1000:=by have⟨e,c,b,_⟩:=h;rw[b];rfl
def yV(h:W.heap[b]?=ob c t):kd W.heap[b]?=t:=by rw[h];rfl
def FR{b:Type}{d:b->vZ}{x:List (b×vZ)}{T:K4}(h:cR d W r x)(e:Px T W W')(g:1000∉T):cR d W' r x:=by have⟨i,c,a,f⟩:=h;exact cR.same ⟨i,c,a,f⟩ ((e.obj a g).tr a.symm)
def LG.px{c:Dm}{i:Int}{L j:AL}{T:K4}(h:LG W l m dm cr L J)(b:LG W' l m c i j J'){B:K4}(u:aU B T W W')(n:c.b=dm.b)(r:∀t∈T,t=262)(y:∀k∈B,k=l\/k=m\/k=dm.b\/∃q∈L,∃f∈j,(k=q.2.1/\k=f.2.1)\/(k=q.2.2.ms/\k=f.2.2.ms)):Px LT W W':=by
 have a:lw 128=aB.b0/\lw 136=aB.b0/\lw 1000=aB.b0:=by simp[lw,aB.lo]
 have k1:∀{V:WR} {v:Dm} {z:Int} {x:AL} {s:K3},LG V l m v z x s->kd V.heap[l]?=128:=fun h=>by have⟨A,w,_⟩:=h.lj.ex;exact yV w
 refine u.px (fun k p _=>?_) (fun t o=>by rw[r t o];exact⟨dC,dC⟩);rcases y k p with rfl|rfl|rfl| ⟨q,g,f,d,⟨rfl,e⟩| ⟨rfl,e⟩⟩
 .rw[k1 h,k1 b,a.1];exact⟨dC,h.lj.lo,rfl⟩
 .rw[pE h.map,pE b.map,a.2.2];exact⟨dC,h.wT.1,rfl⟩
 .have:=pE b.iZ;rw[n] at this;rw[pE h.iZ,this,a.2.2];exact⟨dC,h.wT.2,rfl⟩
 .have:=yV (b.acc f d);rw[<-e] at this;rw[yV (h.acc q g),this,a.2.1];exact⟨dC,(h.lo q g).1,rfl⟩
 .have:=pE (b.slot f d);rw[<-e] at this;rw[pE (h.slot q g),this,a.2.2];exact⟨dC,(h.lo q g).2,rfl⟩
def LG.XV{L:AL}{T:K4}(h:LG W l m dm cr L J)(c:Px T W W')(d:128∉T/\136∉T/\262∉T/\1000∉T):LG W' l m dm cr L J:=by have⟨j,i,a⟩:=h.lj.ex;exact⟨⟨h.lj.lo,j,c.obj i d.1,dM a fun g k=>by have⟨f,b⟩:=cL a g k;exact(c.obj b d.2.2.1).tr b.symm⟩,FR h.map c d.2.2.2,FR h.iZ c d.2.2.2,fun q e=>c.obj (h.acc q e) d.2.1,fun q e=>FR (h.slot q e) c d.2.2.2,h.nd,h.AJ,h.bal,h.key,h.IX,h.UN,h.MA,h.UO,h.pf,h.lo,h.wT⟩
def Ld(a:Av):Ff:=#[.int .u64 (aI a.bal 0),.int .u64 (aI a.bal 1),.int .u64 (aI a.bal 2),.int .u64 (aI a.bal 3),.int .i64 a.nonce,.string a.code,.slice a.mark.a a.mark.n a.mark.c,.map (some a.ms)]
def LF.below{A:AM}{D:K7}(h:LF W l m d cr A D J)(a:Bw W W'):LF W' l m d cr A D J:=by have⟨L,dl,h,e⟩:=h;exact⟨L,dl,h.below a,e⟩
def LF.XV{A:AM}{D:K7}{T:K4}(h:LF W l m d cr A D J)(a:Px T W W')(b:128∉T/\136∉T/\262∉T/\1000∉T):LF W' l m d cr A D J:=by have⟨L,dl,h,e⟩:=h;exact⟨L,dl,h.XV a b,e⟩
def LF.acc{A:AM}{D:K7}(h:LF W l m d cr A D J){v:Av}(c:A i=some (b,v)):W.heap[b]?=ob (Ld v) 136/\v.bal<M/\aB.b0<=b:=by obtain⟨L,dl,h,rfl,_⟩:=h;obtain⟨q,a,rfl,rfl,rfl⟩:=fR c;exact⟨h.acc q a,h.bal q a,(h.lo q a).1⟩
def LF.lj{A:AM}{D:K7}(h:LF W l m d cr A D J):LJ W l m cr d J:=by have⟨L,dl,h,_⟩:=h;exact h.lj
def LF.lt{A:AM}{D:K7}(h:LF W l m d cr A D J):l<W.heap.size/\aB.b0<=l:=by have⟨b,a,_⟩:=h.lj.ex;exact⟨aG a,h.lj.lo⟩
def Tc(A:AM)(i:Int)(b:Nat)(v:Av)(J J':K3):Prop:=
 (A i=some (b,v)/\J'=J)\/(A i=none/\(∃ms,v=⟨0,0,⟨#[]⟩,⟨none,0,0⟩,ms,fun _=>0⟩)/\J'=J++[Fy i])
def yW{A:AM}{D:K7}(h:LF W l m d cr A D J)(i:Int)(x:J.length<100000000):
  Cq 87 #[pq l 0,vI i] W fun e w'=>∃b v J',e=.rt (pq b 0)/\LF w' l m d cr (up A i (some (b,v))) D J'/\Tc A i b v J J'/\Px LT W w':=by
 obtain⟨L,dl,h,rfl,j,s⟩:=h;cases g:am L i with
 |some u=>
  obtain⟨q,a,rfl,r,n⟩:=fR (b:=u.1) (v:=u.2) g;apply(pB h a).mono;rintro e w' ⟨rfl,rfl⟩;exact⟨q.2.1,av q.2.2,J,rfl,⟨L,dl,h,(QS (g.tr (by rw[r,n]))).symm,j,s⟩,.inl ⟨g.tr (by rw[r,n]),rfl⟩,Px.refl _ _⟩
 |none=>
  have c:=pD.1 g;apply(CY h i c x).mono;rintro e w' ⟨rfl,o,f⟩;refine⟨_,av ⟨0,0,⟨#[]⟩,⟨none,0,0⟩,W.heap.size,[]⟩,_,rfl,⟨_,dl,o,Am c,j,fun q a p f=>?_⟩,.inr ⟨g,⟨_,rfl⟩,rfl⟩,h.px o f rfl (fun t w=>by simpa using w) (fun k c=>by simp only[aAx,aAC,or_false] at c;exact c.elim .inl fun e=>.inr (.inl e))⟩;rcases aAL.1 a with a|a
  .exact s q a p f
  .rw[aAB.1 a] at f;cases f
def sN{L:AL}(h:∀q∈L,∀p∈q.2.2.sl,p.2≠0)(b:Nat)(d:∀p∈a.sl,p.2≠0):∀q∈fG L b a,∀p∈q.2.2.sl,p.2≠0:=fun r f p c=>by
 obtain⟨s,g,rfl⟩:=aAJ.1 f;by_cases e:s.2.1=b
 .rw[if_pos e] at c;exact d p c
 .rw[if_neg e] at c;exact h s g p c
def LF.set{A:AM}{D:K7}{T:K4}(h:LF W l m d cr A D J){v v':Av}(C:A i=some (b,v)){B:K4}(o:LJ W' l m cr d J')(x:W'.heap[b]?=ob (Ld v') 136)(z:aU B T W W')(E:∀k∈B,k=l\/k=b)(r:∀t∈T,t=262)(n:v'.ms=v.ms/\v'.sl=v.sl)(g:v'.bal<M):LF W' l m d cr (up A i (some (b,v'))) D J'/\Px LT W W':=by
 obtain⟨L,dl,h,rfl,u,s⟩:=h;obtain⟨q,c,rfl,rfl,rfl⟩:=fR C;have e:av {q.2.2 with bal:=v'.bal,nonce:=v'.nonce,code:=v'.code,mark:=v'.mark}=v':=by cases v';have⟨y,w⟩:=n;cases y;cases w;rfl
 have a:aU [l,q.2.1] T W W':=z.mono (fun k _ j=>by simpa using E k j) fun t h=>h;have p:=h.set c (a:={q.2.2 with bal:=v'.bal,nonce:=v'.nonce,code:=v'.code,mark:=v'.mark}) o (by rw[x,<-e];rfl) a (fun f=>by cases r _ f) ⟨rfl,rfl⟩ g;refine⟨⟨_,dl,p,by rw[yU h.nd h.AJ c,e],u,sN s _ (s q c)⟩,h.px p a rfl r (fun k j=>?_)⟩;simp only[aAx,aAC,or_false] at j;exact j.elim .inl fun e=>.inr (.inr (.inr ⟨q,c,_,lV c _,.inl ⟨e,e⟩⟩))
def vW{A:AM}{D:K7}(h:LF W l m d cr A D J){v:Av}(r:A i=some (b,v))(x:Nat)(s:x<M)(p:J.length<100000000):
  Cq 88 #[pq l 0,pq b 0,wd x] W fun e w'=>e=rU/\LF w' l m d cr (up A i (some (b,{v with bal:=x}))) D (J++[kH b v.bal])/\Px LT W w':=by
 obtain⟨L,dl,h,rfl,j,g⟩:=h;obtain⟨q,a,rfl,rfl,rfl⟩:=fR r;apply(mV h a x s p).mono;rintro e w' ⟨rfl,f,o⟩;refine⟨rfl,⟨_,dl,f,yU h.nd h.AJ a _,j,sN g _ (g q a)⟩,h.px f o rfl (fun t n=>by simpa using n) (fun k c=>?_)⟩
 .simp only[aAx,aAC,or_false] at c;exact c.elim .inl fun e=>.inr (.inr (.inr ⟨q,a,_,lV a _,.inl ⟨e,e⟩⟩))
def DM(a:Addr)(n c:Nat)(V:WR):(binOp BinOp.eql 32 (Value.slice (some a) n c) (Value.slice none 0 0)).run zQ.prog V=.ok (.bool false) V:=kR
def tf(a b:Addr)(c:Nat)(w:WR):(Builtin.append_ #[32,32] 32 #[.slice (some a) 0 0,.slice (some b) 0 c]).run zQ.prog w=.ok (.slice (some a) 0 0) w:=by have⟨i,z,f,h,g,e,d⟩:=OR;exact run_append_nothing w 32 32 32 95 i ((aC 32).tr underlying32) f (some a) 0 0 lR _ ⟨.inl ⟨95,(aC 32).tr underlying32⟩,fun _=>by simp[Builtin.lenOf],by simp[Builtin.firstCells,loadCells,loadCellsFrom],by simp[Builtin.firstCells,loadCells,loadCellsFrom],sI,sI⟩
def Co(a:Addr)(c:Nat)(W:WR):Cq 141 #[.sl (some a) 0 c] W fun e w'=>∃lv:SV,e=.rt (.sl lv.a lv.n lv.c)/\Bw W w'/\pQ W.heap.size lv 0 [] w':=by have b:=DM;have d:=tf;go_enter zQ.func141,ntmps141;go_wp2;simp[bodyPost,results,results141,go_sem];exact⟨⟨some ⟨W.heap.size,0,none⟩,0,0⟩,⟨rfl,rfl,rfl⟩,ba,rfl,fun h=>absurd h dC⟩
def fr(F:fC)(g p:Int):fC:={F with bP:=g,place:=p,next:=p}
structure Gb (W:WR)(a d li ni:Addr):Prop where
 lo:5<aB.b0/\a.block<aB.b0/\d.block<aB.b0/\li.block<aB.b0/\ni.block<aB.b0
 low:aB.b0<=W.heap.size
 ng:W.cell? ⟨1,0,none⟩=some (.iface 407 (.pointer (some a)))
 dp:W.cell? ⟨0,0,none⟩=some (.iface 407 (.pointer (some d)))
 lt:W.cell? ⟨3,0,none⟩=some (.iface 407 (.pointer (some li)))
 et:W.cell? ⟨4,0,none⟩=some (.iface 355 (.agg #[pq 11 36]))
 ins:W.cell? ⟨5,0,none⟩=some (.iface 407 (.pointer (some ni)))
 oa:∃c t,W.heap[a.block]?=ob c t
 od:∃c t,W.heap[d.block]?=ob c t
 ol:∃c t,W.heap[li.block]?=ob c t
 oi:∃c t,W.heap[ni.block]?=ob c t
 ne:a≠d/\a≠li/\ni≠d/\ni≠li/\li≠d
structure Md (B:K4)(W0 W:WR)(mc l m:Nat)(dm:Dm)(cr:Int)(L:List (Int×Nat×Ac))(J:K3)(lg:SV)(back depth:Int)(N:Nat)(xs:K3)(a d li ni:Addr):Prop where
 ld:LG W l m dm cr L J
 mc:W.heap[mc]?=ob (aZ l lg back depth) 165
 ow:W.ownsRow aB.b0 95 6 (.slice lg.a lg.n lg.c) N xs
 gb:Gb W a d li ni
 pr:aU B [262,41,95] W0 W
section
def tq{W:WR}{f mc l:Nat}{lg:SV}{back depth:Int}{Φ:vZ->K6}{n:Nat}(j:W.heap[mc]?=ob (aZ l lg back depth) 165)(q:0<=depth)(p:depth<1000)(h:∀w:WR,w.heap[mc]?=ob (aZ l lg back (depth+1)) 165->aU [mc] [] W w->Rn f Φ n w)(i:∀v d,Φ v d->∃b a,d.heap[mc]?=ob (aZ l b a (depth+1)) 165):
  Cq 139 #[pq mc 0,pq f 0] W fun e d=>∃t v w2 b a,e=.rt (.iface t v)/\Φ (.iface t v) w2/\w2.heap[mc]?=ob (aZ l b a (depth+1)) 165/\d.heap[mc]?=ob (aZ l b a depth) 165/\aU [mc] [] w2 d:=by
 have u:iw (depth+1)=depth+1:=iW;have r:iw depth=depth:=iW;have c3:=bq j 3;have o:=aQ j 3;have g:(W.sA mc 3 (vI (depth+1))).heap[mc]?=ob (aZ l lg back (depth+1)) 165:=aO (i:=3) j;have k:=Cz n _ (h _ g (aU.sC W mc 3 _));clear h;go_enter (qz func139),ntmps139;go_wp2_with fail;apply k.mono;rintro e w2 ⟨t,v,rfl,m⟩;have⟨b,a,c⟩:=i _ _ m;clear c3 o k;have c3:=bq c 3;have o:=aQ c 3;have s:depth+1 - 1=depth:=oM
 go_wp2;go_ret;exact⟨t,v,w2,b,a,rfl,m,c,aO (i:=3) c,aU.sC w2 mc 3 _⟩
section
variable (l m:Nat)(dm:Dm)(cr:Int)
end
end
theorem RQ{g a:vZ->K6}(h:∀v w,g v w->a v w):∀(n:Nat) (W:WR),Rn f g n W->Rn f a n W
 |0,_,b=>b
 |n+1,W,b=>by
  refine Calls.mono b ?_;rintro e w' (⟨t,v,rfl,c⟩| ⟨rfl,d⟩)
  .exact .inl ⟨t,v,rfl,h _ _ c⟩
  .exact .inr ⟨rfl,RQ h n w' d⟩
def LG.eT{B:K4}(h:LG W l m dm cr L J)(g:aU B T W W')(d:128∉T/\262∉T/\136∉T)(i:∀k∈B,∀o,W.heap[k]?=some o->∃c t f,o=.cells c t f/\t≠128/\t≠262/\t≠136):LG W' l m dm cr L J:=
 h.jA (h.lj.jA g ⟨d.1,d.2.1⟩ (fun k a o b=>let⟨c,t,f,e,j,h3,_⟩:=i k a o b;⟨c,t,f,e,j,h3⟩)) g d.2.2 (fun k a o b=>let⟨c,t,f,e,_,_,h4⟩:=i k a o b;⟨c,t,f,e,h4⟩)
def LG.ie{f:Nat×Nat}(h:LG W l m dm cr L J)(d:aU [b] T W W')(j:W.heap[b]?=some (.cells c t f))(g:128∉T/\262∉T/\136∉T)(i:t≠128/\t≠262/\t≠136):LG W' l m dm cr L J:=
 h.eT d g fun k e o a=>by
  obtain rfl:k=b:=by simpa using e
  rw[j] at a;cases a;exact⟨_,_,_,rfl,i⟩
def uc(v:vZ)(w:WR):(Go.method 543 174 v "Left").run zQ.prog w=.ok (366,v) w:=kR
def aU.drop{B:K4}(h:aU (b::B) T w w')(f:w.heap.size<=b):aU B T w w':=h.mono (fun k d a=>by
 rcases aAx.1 a with e|e
 .omega
 .exact e) (fun t c=>c)
def aU.low{B:K4}(h:aU B T w w')(c:∀k∈B,aB.b0<=k)(b:aB.b0<=w.heap.size):Below aB.b0 w w':=
 ⟨h.os,h.tape,h.output,h.size,fun k a=>h.floor a (aAy a b) (fun e=>by have:=c k e;omega)⟩
def WJ{F:fC}(h:W.heap[f]?=ob (vT F ⟨none,0,0⟩) 225)(j:F.text.size=0)(c:F.place=0)(g:0<=F.bP)(d:F.bP<100000000):
  Rn f (fun v w'=>v=.iface 174 (.agg #[.int .i64 F.bP,.string ⟨#[]⟩])/\aU [f] [] W w') 1 W:=by
 have b:=step_end h 0 1 0 (fun w a=>UR a (by rw[j,c];decide)) (fun w a=>tt a 0 0 0 0 oz (UQ f) (p9 f) sI dC sI dC dC g d g) ae oM oM dC dC fun w a=>tp a;refine Calls.mono b ?_;rintro e w' ⟨rfl,i⟩;exact .inl ⟨_,_,rfl,sI,i⟩
def PC(h:LG W l m dm cr L J)(Z:W.heap[mc]?=ob (aZ l ⟨none,0,0⟩ 0 0) 165){p:Int×Nat×Ac}(T:q∈L)(F:p∈L)(B:q.2.1≠p.2.1)(n:p.2.2.code.size=0)(x:Nat)(Y:x<M)(N:x<=q.2.2.bal)(g:Int)(data:SV)(S:0<=g)(C:g<100000000)(hJ:J.length<90):
  Cq 92 #[pq mc 0,.agg (oJ q.1 p.1 x g data)] W fun e w'=>∃t v,e=.rt (.iface t v)/\(Value.iface t v=.iface 174 (.agg #[vI g,.string ⟨#[]⟩])/\LG w' l m dm cr (fG (fG L q.2.1 {q.2.2 with bal:=(q.2.2.bal+M - x) % M}) p.2.1 {p.2.2 with bal:=(p.2.2.bal+x) % M}) (J++[kH q.2.1 q.2.2.bal]++[kH p.2.1 p.2.2.bal])/\w'.heap[mc]?=ob (aZ l ⟨none,0,0⟩ 0 0) 165/\aU [l,q.2.1,p.2.1,mc] [262] W w'):=by
 refine call92 (Ψ:=fun u w'=>u=.iface 174 (.agg #[vI g,.string ⟨#[]⟩])/\LG w' l m dm cr (fG (fG L q.2.1 {q.2.2 with bal:=(q.2.2.bal+M - x) % M}) p.2.1 {p.2.2 with bal:=(p.2.2.bal+x) % M}) (J++[kH q.2.1 q.2.2.bal]++[kH p.2.1 p.2.2.bal])/\w'.heap[mc]?=ob (aZ l ⟨none,0,0⟩ 0 0) 165/\aU [l,q.2.1,p.2.1,mc] [262] W w') h Z dC T F B x Y N g data oM fun w f G H o V I=>?_;have c:mc≠f:=dP o G dC;have A:=tq (W:=w) (f:=f) (mc:=mc) (l:=l) (lg:=⟨none,0,0⟩) (back:=0) (depth:=0) (n:=1)
  (Φ:=fun v w'=>∃b,aU [mc] [] w b/\b.heap[mc]?=ob (aZ l ⟨none,0,0⟩ 0 (0+1)) 165/\v=.iface 174 (.agg #[vI g,.string ⟨#[]⟩])/\aU [f] [] b w')
  o dC dC
  (fun b s r=>?_) (fun v w' ⟨b,s,r,h3,h4⟩=>⟨_,_,h4.obj r (by simp[qB]) (by simpa using c)⟩)
 rotate_left
 .have i:b.heap[f]?=_:=r.obj G (by simp[qB]) (by simpa using Ne.symm c);exact RQ (fun v w' ⟨hv,F⟩=>⟨b,r,s,hv,F⟩) _ _ (WJ i n rfl S C)
 apply A.mono;rintro e w3 ⟨t,v,w2,R,D,rfl,⟨b,s,r,h3,j⟩,h4,U,Q⟩;refine⟨t,v,rfl,?_⟩;have i:b.heap[f]?=_:=s.obj G (by simp[qB]) (by simpa using Ne.symm c);have P:=V.ie s o sI dC;have O:=P.ie j i sI dC;have E:=O.ie Q h4 sI dC;have y:w2.heap[mc]?=_:=j.obj r (by simp[qB]) (by simpa using c);have z:w3.heap[mc]?=ob (aZ l ⟨none,0,0⟩ 0 0) 165:=by rw[y] at h4;simp only[aZ,aAF,Obj.cells.injEq,Array.mk.injEq,aBX,Value.slice.injEq,Value.int.injEq,true_and,and_true] at h4;rw[U];simp only[aZ,<-h4.1.1,<-h4.1.2.1,<-h4.1.2.2,<-h4.2]
 have K:aU [l,q.2.1,p.2.1,mc] [262] W w3:=by have e1:aU [l,q.2.1,p.2.1,mc] [262] W b:=(I.mono (fun k _ a=>by simp at a;simp;omega) (fun t d=>d)).tr (s.mono (fun k _ a=>by simp at a;simp[a]) (fun t d=>by cases d));have X:=e1.xh (j.mono (B':=[f]) (T':=[262]) (fun k _ a=>a) (fun t d=>by cases d)) (fun k a=>by simp at a;subst a;exact .inr H);exact X.tr (Q.mono (fun k _ a=>by simp at a;simp[a]) (fun t d=>by cases d))
 simp only[Value.iface.injEq] at h3;obtain⟨rfl,rfl⟩:=h3;apply(qE mc _ w3).mono;rintro e w' ⟨rfl,rfl⟩;exact⟨_,_,rfl,rfl,E,z,K⟩
end
section
variable [aB]
attribute [local go_sem] wd
def Px.row{T:K4}(h:Px T w w'){k:Nat}(a:w.heap[k]?=ob c t)(b:t∉T:=by decide):w'.heap[k]?=ob c t:=h.obj a b
def Tc.len{A:AM}{v:Av}(h:Tc A i b v J J'):J'.length<=J.length+1:=by
 rcases h with⟨_,rfl⟩| ⟨_,_,rfl⟩
 .omega
 .simp
def xj{A:AM}{D:K7}(h:LF W l m d cr A D J)(i:Int)(x:Nat)(E:x<M)(H:J.length+1<100000000):
  Cq 49 #[pq l 0,vI i,wd x] W fun e w'=>e=.returned (.tuple #[])/\(∃b v J',Tc A i b v J J'/\LF w' l m d cr (up A i (some (b,{v with bal:=(v.bal+M - x) % M}))) D (J'++[kH b v.bal]))/\Px LT W w':=by
 have j:Bw W (W.alloc (.cells (wq x) 41)):=ba;have w:=h.below j;have F:=aM W (.cells (wq x) 41);have g:=yW w i oM;have C:=h.lt.1;go_enter (qz func49),Tryz.ntmps49;go_wp2_with fail;refine g.mono ?_;rintro e w1 ⟨b,v,J',rfl,t,r,f⟩;clear g;have s:w1.heap[W.heap.size]?=_:=f.row F;have⟨c,q,_⟩:=t.acc (dN _ _ _);obtain⟨y,B,c2,c3⟩:=q4 c;have G:=aG c;go_wp2_with fail;refine rq (fun V=>V.heap[W.heap.size]?=ob (wq x) 41) s fun a=>?_;refine t5 0 1 2 3 4 a ?_;refine tV 6 (fun _ u=>q4 u) a ?_;refine rA 5 fun K k=>?_;go_simp;refine k.out _ _ a fun a=>?_;clear y B c2 c3;refine rA 7 fun K k=>?_;go_simp;refine(sub v.bal x q E _).mono ?_;rintro e z ⟨rfl,o⟩;go_wp2_with fail;refine k.out _ _ (bk o a) fun a=>?_;have p:Bw w1 z:=bR.drew.trans o;have h3:=t.below p;refine rA 8 fun K k=>?_;go_simp;refine(vW h3 (dN _ _ _) ((v.bal+M - x) % M) (aBE _ dC) (by have:=r.len;exact oM)).mono ?_;rintro e I ⟨rfl,h4,n⟩;go_wp2_with fail;refine k.out _ _ (n.row a) fun a=>?_;refine dn ?_;show bodyPost zQ.prog Tryz.f49 _ Exit.normal _ _;simp[bodyPost,results,Tryz.results49,go_sem];rw[oH] at h4;exact⟨⟨b,v,J',r,h4⟩,(Px.aF j _).trans (f.trans ((Px.aF p _).trans n))⟩
def an{A:AM}{D:K7}(h:LF W l m d cr A D J)(i:Int)(x:Nat)(E:x<M)(H:J.length+1<100000000):
  Cq 94 #[pq l 0,vI i,wd x] W fun e w'=>e=.returned (.tuple #[])/\(∃b v J',Tc A i b v J J'/\LF w' l m d cr (up A i (some (b,{v with bal:=(v.bal+x) % M}))) D (J'++[kH b v.bal]))/\Px LT W w':=by
 have j:Bw W (W.alloc (.cells (wq x) 41)):=ba;have w:=h.below j;have F:=aM W (.cells (wq x) 41);have g:=yW w i oM;have C:=h.lt.1;go_enter (qz func94),Tryz.ntmps94;go_wp2_with fail;refine g.mono ?_;rintro e w1 ⟨b,v,J',rfl,t,r,f⟩;clear g;have s:w1.heap[W.heap.size]?=_:=f.row F;have⟨c,q,_⟩:=t.acc (dN _ _ _);obtain⟨y,B,c2,c3⟩:=q4 c;have G:=aG c;go_wp2_with fail;refine rq (fun V=>V.heap[W.heap.size]?=ob (wq x) 41) s fun a=>?_;refine t5 0 1 2 3 4 a ?_;refine tV 6 (fun _ u=>q4 u) a ?_;refine rA 5 fun K k=>?_;go_simp;refine k.out _ _ a fun a=>?_;clear y B c2 c3;refine rA 7 fun K k=>?_;go_simp;refine(add v.bal x q E _).mono ?_;rintro e z ⟨rfl,o⟩;go_wp2_with fail;refine k.out _ _ (bk o a) fun a=>?_;have p:Bw w1 z:=bR.drew.trans o;have h3:=t.below p;refine rA 8 fun K k=>?_;go_simp;refine(vW h3 (dN _ _ _) ((v.bal+x) % M) (aBE _ dC) (by have:=r.len;exact oM)).mono ?_;rintro e I ⟨rfl,h4,n⟩;go_wp2_with fail;refine k.out _ _ (n.row a) fun a=>?_;refine dn ?_;show bodyPost zQ.prog Tryz.f94 _ Exit.normal _ _;simp[bodyPost,results,Tryz.results94,go_sem];rw[oH] at h4;exact⟨⟨b,v,J',r,h4⟩,(Px.aF j _).trans (f.trans ((Px.aF p _).trans n))⟩
def gt(A:AM)(i:Int):Av:=(A i).elim ⟨0,0,⟨#[]⟩,⟨none,0,0⟩,0,fun _=>0⟩ (·.2)
def mp(A:AM)(i:Int):Option Nat:=(A i).map (·.2.ms)
def UW(A:AM)(i:Int):Ff:=#[.int .u64 (aI (gt A i).bal 0),.int .u64 (aI (gt A i).bal 1),.int .u64 (aI (gt A i).bal 2),.int .u64 (aI (gt A i).bal 3),.int .i64 (gt A i).nonce,.string (gt A i).code,.slice (gt A i).mark.a (gt A i).mark.n (gt A i).mark.c,.map (mp A i)]
def LF.Lz{A:AM}{D:K7}(h:LF W l m d cr A D J)(i:Int):(gt A i).bal<M:=by
 unfold gt;cases a:A i with
 |none=>show(0:Nat)<M;decide
 |some x=>exact(h.acc (b:=x.1) (v:=x.2) a).2.1
def An{A:AM}{D:K7}(h:LF W l m d cr A D J)(i:Int):
  Cq 82 #[pq l 0,vI i] W fun e w'=>e=.rt (.bool (A i).isSome)/\w'=W:=by
 obtain⟨L,dl,h,rfl,g,n⟩:=h;cases a:am L i with
 |some b=>
  obtain⟨q,f,rfl,k,j⟩:=fR (b:=b.1) (v:=b.2) a;exact QN h f
 |none=>
  have o:=h.NZ (pD.1 a) (W':=W) rfl;have⟨c,p⟩:=h.cell0;clear h;go_enter (qz func82),ntmps82;go_wp2;go_ret;exact⟨rfl,rfl⟩
def QT{A:AM}{D:K7}(h:LF W l m d cr A D J)(i:Int):
  Cq 130 #[pq l 0,vI i] W fun e w'=>e=.rt (.agg (UW A i))/\Bw W w':=by
 obtain⟨L,dl,h,rfl,j,o⟩:=h;cases a:am L i with
 |some f=>
  obtain⟨q,c,rfl,n,k⟩:=fR (b:=f.1) (v:=f.2) a;have b:UW (am L) q.1=cG q.2.2:=by unfold UW gt mp;rw[yT h.nd c];rfl
  rw[b];exact wU h c
 |none=>
  have b:UW (am L) i=#[vU 0,vU 0,vU 0,vU 0,vI 0,.string ⟨#[]⟩,.sl none 0 0,.map none]:=by unfold UW gt mp;rw[a];simp[UT]
  rw[b];have⟨g,r⟩:=h.cell0;have p:=h.NZ (pD.1 a) (W':=W.nc #[vU 0,vU 0,vU 0,vU 0,vI 0,.string ⟨#[]⟩,.sl none 0 0,.map none] 136) (Below.heap_alloc W _ m h.map.lt);clear h;go_enter (qz func130),ntmps130;go_wp2;simp[bodyPost,results,results130,go_sem];exact ba
def qm{A:AM}{D:K7}(h:LF W l m d cr A D J)(i:Int):
  Cq 86 #[pq l 0,vI i] W fun e w'=>e=.returned (wd (gt A i).bal)/\Bw W w':=by
 have a:Bw W (W.alloc (.cells wz 41)):=ba;have f:=QT (h.below a) i;have s:=aM W (.cells wz 41);clear h;go_enter (qz func86),Tryz.ntmps86;go_wp2_with fail;refine f.mono ?_;rintro e w1 ⟨rfl,c⟩;clear f;have B:=fun g w r k j t v o=>Pb g w r k j t v o w1;have b:=bk c s;have q:=aG b;obtain⟨p,u,x,n,y,z,C,E⟩:=q8 b;unfold UW;go_wp2;simp[bodyPost,results,Tryz.results86,go_sem,p,u,x,n];exact(((((a.trans (c.mono a.size)).setCell (by dsimp only;exact oM) _).setCell (by dsimp only;exact oM) _).setCell (by dsimp only;exact oM) _).setCell (by dsimp only;exact oM) _)
def OD{A:AM}{D:K7}(h:LF W l m d cr A D J)(i:Int):
  Cq 83 #[pq l 0,vI i] W fun e w'=>e=.rt (vI (gt A i).nonce)/\Bw W w':=by
 have a:=QT h i;clear h;go_enter (qz func83),ntmps83;go_wp2_with fail;apply a.mono;rintro e w1 ⟨rfl,f⟩;clear a;have q:=fun b p k g c n o j=>Pc b p k g c n o j w1;unfold UW;go_wp2;go_ret;exact⟨rfl,f⟩
end
section
variable [aB]
def ao(b:Nat)(c:Lp)(mk:SV):vZ:=.iface 305 (.agg #[pq b 0,.string c,.slice mk.a mk.n mk.c])
def QU(k:Int):vZ:=.iface 404 (.agg #[.int .i64 k])
def yX(f:Nat->Nat)(k x:Nat):Nat->Nat:=fun j=>if j=k then x else f j
def qn(f:Nat->Nat)(k x y:Nat):yX (yX f k x) k y=yX f k y:=by funext j;unfold yX;split<;>rfl
def Ao(f:Nat->Nat)(k:Nat):yX f k (f k)=f:=by
 funext j;unfold yX;split
 .rename_i e;rw[e]
 .rfl
inductive JV:vZ->AM->K7->AM->K7->Prop
 |be (k:Int) (A:AM) (D:K7):JV (Fy k) A D (up A k none) D
 |bal (i:Int) (b:Nat) (v:Av) (x:Nat) (A:AM) (D:K7) (hi:A i=some (b,v)) (hx:x<M):JV (kH b x) A D (up A i (some (b,{v with bal:=x}))) D
 |nonce (i:Int) (b:Nat) (v:Av) (x:Int) (A:AM) (D:K7) (hi:A i=some (b,v)):JV (uG b x) A D (up A i (some (b,{v with nonce:=x}))) D
 |code (i:Int) (b:Nat) (v:Av) (c:Lp) (mk:SV) (A:AM) (D:K7) (hi:A i=some (b,v)):JV (ao b c mk) A D (up A i (some (b,{v with code:=c,mark:=mk}))) D
 |slot (i:Int) (b:Nat) (v:Av) (k x:Nat) (A:AM) (D:K7) (hi:A i=some (b,v)) (hk:k<M) (hx:x<M):JV (QR b k x) A D (up A i (some (b,{v with sl:=yX v.sl k x}))) D
 |doom (k:Int) (A:AM) (D:K7):JV (QU k) A D A (fun j=>D j/\j≠k)
def UX(c:AM)(D0:K7):K3->AM->K7->Prop
 | [],A,D=>A=c/\D=D0
 |j::rs,A,D=>∃b a,JV j A D b a/\UX c D0 rs b a
theorem UX.trans{A0 A1:AM}{D0 D1:K7}{rs:K3}(h:UX A0 D0 rs A1 D1):∀{ts:K3} {A2:AM} {D2:K7},UX A1 D1 ts A2 D2->UX A0 D0 (ts++rs) A2 D2
 | [],_,_,⟨h1,h2⟩=>by cases h1;cases h2;exact h
 |_::_,_,_,⟨A',D',hj,h'⟩=>⟨A',D',hj,h.trans h'⟩
def UX.tr{e a:AM}{D0 D1:K7}(h:UX e D0 rs a D1):∀{b:K3} {c:AM} {d:K7},UX a D1 b c d->UX e D0 (b++rs) c d:=UX.trans h
def mI(n:Nat)(A:AM)(D:K7)(J:K3)(b:AM)(a:K7)(J':K3):Prop:=
 ∃rs,J'=J++rs.reverse/\rs.length<=n/\UX A D rs b a
def mI.refl(A:AM)(D:K7)(J:K3):mI 0 A D J A D J:=⟨[],sI,aAz _,rfl,rfl⟩
def mI.trans{A b c:AM}{D D1 d:K7}(h:mI n A D J b D1 J1)(e:mI n' b D1 J1 c d J2):mI (n+n') A D J c d J2:=by obtain⟨rs,rfl,j,i⟩:=h;obtain⟨f,rfl,g,a⟩:=e;exact⟨f++rs,sI,by simp;omega,i.tr a⟩
def mI.tr{A a b:AM}{D D1 c:K7}(h:mI n A D J a D1 J1)(d:mI n' a D1 J1 b c J2):mI (n+n') A D J b c J2:=mI.trans h d
def mI.mono{A a:AM}{D D1:K7}(h:mI n A D J a D1 J1)(d:n<=n'):mI n' A D J a D1 J1:=by have⟨rs,c,b,h3⟩:=h;exact⟨rs,c,aAw b d,h3⟩
def mI.len{A a:AM}{D D1:K7}(h:mI n A D J a D1 J1):J1.length<=J.length+n/\J.length<=J1.length:=by obtain⟨rs,rfl,b,h3⟩:=h;simp;omega
def mI.one{A a:AM}{D D1:K7}{j:vZ}(h:JV j a D1 A D):mI 1 A D J a D1 (J++[j]):=⟨[j],rfl,aAz _,A,D,h,rfl,rfl⟩
def Tc.Le{A:AM}{D:K7}{v:Av}(h:Tc A i b v J J1):mI 1 A D J (up A i (some (b,v))) D J1:=by
 rcases h with⟨a,rfl⟩| ⟨a,_,rfl⟩
 .rw[QS a];exact(mI.refl _ _ _).mono dC
 .refine .one (j:=Fy i) ?_;have:=JV.be i (up A i (some (b,v))) D;rw[oH,QS a] at this;exact this
def QV{A:AM}{D:K7}{v:Av}(h:Tc A i b v J J1)(a:v.bal<M)(x:Nat):mI 2 A D J (up A i (some (b,{v with bal:=x}))) D (J1++[kH b v.bal]):=by refine h.Le.tr (.one ?_);have:=JV.bal i b {v with bal:=x} v.bal (up A i (some (b,{v with bal:=x}))) D (dN _ _ _) a;rw[oH] at this;exact this
def UY{A:AM}{D:K7}{v:Av}(h:Tc A i b v J J1)(x:Int):mI 2 A D J (up A i (some (b,{v with nonce:=x}))) D (J1++[uG b v.nonce]):=by refine h.Le.tr (.one ?_);have:=JV.nonce i b {v with nonce:=x} v.nonce (up A i (some (b,{v with nonce:=x}))) D (dN _ _ _);rw[oH] at this;exact this
def au{A:AM}{D:K7}{v:Av}(h:Tc A i b v J J1)(c:Lp)(mk:SV):mI 2 A D J (up A i (some (b,{v with code:=c,mark:=mk}))) D (J1++[ao b v.code v.mark]):=by refine h.Le.tr (.one ?_);have:=JV.code i b {v with code:=c,mark:=mk} v.code v.mark (up A i (some (b,{v with code:=c,mark:=mk}))) D (dN _ _ _);rw[oH] at this;exact this
def aw{A:AM}{D:K7}{v:Av}(h:Tc A i b v J J1)(k x:Nat)(a:k<M)(c:v.sl k<M):mI 2 A D J (up A i (some (b,{v with sl:=yX v.sl k x}))) D (J1++[QR b k (v.sl k)]):=by refine h.Le.tr (.one ?_);have:=JV.slot i b {v with sl:=yX v.sl k x} k (v.sl k) (up A i (some (b,{v with sl:=yX v.sl k x}))) D (dN _ _ _) a c;rw[oH,qn,Ao] at this;exact this
def ax{A:AM}{D:K7}(h:¬D k):mI 1 A D J A (fun j=>D j\/j=k) (J++[QU k]):=by
 refine .one ?_;have:=JV.doom k A fun j=>D j\/j=k;rw[show(fun j=>(D j\/j=k)/\j≠k)=D by funext j;exact propext ⟨fun⟨a,b⟩=>a.resolve_right b,fun a=>⟨.inl a,fun e=>h (e▸a)⟩⟩] at this
 exact this
end
section
variable [aB]
attribute [local go_sem] wd
def xk{A:AM}{D:K7}(h:LF W l m d cr A D J)(i:Int):
  Cq 140 #[pq l 0,vI i] W fun e w'=>e=.rt (.tuple #[.string (gt A i).code,.sl (gt A i).mark.a (gt A i).mark.n (gt A i).mark.c])/\Bw W w':=by
 have f:=QT h i;clear h;go_enter (qz func140),ntmps140;go_wp2_with fail;apply f.mono;rintro e w1 ⟨rfl,g⟩;clear f;have j:=aM w1 (.ce (UW A i) 136);have b:Bw w1 (w1.nc (UW A i) 136):=ba;unfold UW;go_wp2_with fail;change Code.wp _ _ _ _ (w1.nc (UW A i) 136);refine rq (fun V=>V.heap[w1.heap.size]?=ob (UW A i) 136) j fun a=>?_;refine t1 0 a ?_;refine tV 1 (fun _ c=>bq c 5) a ?_;refine t1 2 a ?_;refine tV 3 (fun _ c=>bq c 6) a ?_;refine t2 4 5 a ?_;refine dn ?_;go_wp2;simp[bodyPost,results,results140,go_sem];exact g.tr (b.drew.mono g.size)
def qo{A:AM}{D:K7}(h:LF W l m d cr A D J)(i:Int)(x:Nat)(q:x<M)(h3:3<W.heap.size){E:vZ}(p:W.cA 3 0=some E):
   Cq 175 #[pq l 0,vI i,wd x] W fun e w'=>(e=.rt .nilIface/\x<=(gt A i).bal\/e=.rt E/\(gt A i).bal<x)/\Bw W w':=by
 have b:Bw W (W.nc (wq x) 41):=ba;have r:=aM W (.ce (wq x) 41);have k:=h.below b;go_enter (qz func175),ntmps175;go_wp2_with fail;change Code.wp _ _ _ _ (W.nc (wq x) 41);refine rq (fun V=>V.heap[W.heap.size]?=ob (wq x) 41) r fun f=>?_;refine t2 0 1 f ?_;refine tV 3 (fun _ o=>q4 o) f ?_;refine rA 2 fun K j=>?_;go_simp;apply(qm (k.below bR.drew) i).mono;rintro e u ⟨rfl,c⟩;go_wp2_with fail;refine j.out _ _ (bk c f) fun f=>?_;refine rA 4 fun K j=>?_;go_simp;apply(less (gt A i).bal x (h.Lz i) q _).mono;rintro e v ⟨rfl,g⟩;go_wp2_with fail;refine j.out _ _ (bk g f) fun f=>?_;refine dn ?_;have a:=b.tr ((bR.drew.tr (c.tr (g.mono c.size))).mono b.size);have s:=(a.cell (p:=(ad 3 0)) h3).tr p;by_cases t:(gt A i).bal<x
 .have n:decide ((gt A i).bal<x)=true:=by simp;omega
  go_wp2;go_ret;exact⟨.inr ⟨rfl,t⟩,a⟩
 .have n:decide ((gt A i).bal<x)=false:=by simp;omega
  go_wp2;go_ret;exact⟨.inl ⟨rfl,oM⟩,a⟩
def Ap{A:AM}{D:K7}(h:LF W l m d cr A D J)(i:Int)(z:0<=(gt A i).nonce)(f:(gt A i).nonce<9223372036854775807)(P:J.length+1<100000000):
   Cq 91 #[pq l 0,vI i] W fun e w'=>e=rU/\(∃b v J',Tc A i b v J J'/\LF w' l m d cr (up A i (some (b,{v with nonce:=v.nonce+1}))) D (J'++[uG b v.nonce]))/\Px LT W w':=by
 have p:=yW h i oM;go_enter (qz func91),ntmps91;go_wp2_with fail;apply p.mono;rintro e w1 ⟨b,v,J',rfl,y,j,B⟩;clear p;have I:0<=v.nonce/\v.nonce<9223372036854775807:=by
  rcases j with⟨e,_⟩| ⟨_,⟨ms,rfl⟩,_⟩
  .unfold gt at z f;rw[e] at z f;exact⟨z,f⟩
  .exact⟨aBq 0,by show(0:Int)<_;decide⟩
 have⟨a,x,L⟩:=y.acc (dN _ _ _);have N:=aG a;have C:b≠l:=by have⟨O,K,_⟩:=y.lj.ex;exact dP a K dC
 have c4:=bq a 4;have q:=note l m cr d J' 229 (.agg #[pq b 0,vI v.nonce]) _ y.lj (by have:=j.len;omega);have M:iw (v.nonce+1)=v.nonce+1:=iW;clear z f;go_wp2_with fail;apply q.mono;rintro e w2 ⟨rfl,u,s⟩;clear q c4;have g:w2.heap[b]?=_:=s.obj a (by show(136:Nat)∉[262];decide) (by simpa using C);have c4:=bq g 4;have Q:=aQ g 4;go_wp2;simp[bodyPost,results,results91,go_sem];have r:=aU.sC w2 b 4 (vI (v.nonce+1));have F:=aO (i:=4) (v:=vI (v.nonce+1)) g;have w:=u.jA r dC (fun k c o H=>by
  obtain rfl:k=b:=by simpa using c
  rw[g] at H;cases H;exact⟨_,_,_,rfl,dC,dC⟩)
 have G:aU [l,b] [262] w1 _:=aU.tr (s.mono (fun k _ c=>by simp at c;simp[c]) (fun t n=>n)) (r.mono (fun k _ c=>by simp at c;simp[c]) (fun t n=>by cases n));have E:=y.set (v':={v with nonce:=v.nonce+1}) (dN _ _ _) w F G (fun k c=>by simpa using c) (fun t n=>by simpa using n) ⟨rfl,rfl⟩ x;rw[oH] at E;exact⟨⟨b,v,J',j,E.1⟩,B.tr E.2⟩
def Aq{A:AM}{D:K7}(h:LF W l m d cr A D J)(B:0<=cr)(s:cr<1000000000000):
   Cq 135 #[pq l 0] W fun e w'=>e=.rt (vI (1000000+cr))/\LF w' l m d (cr+1) A D J/\Px LT W w':=by
 obtain⟨L,dl,h,rfl,q,v⟩:=h;have⟨u,b,a⟩:=h.lj.ex;have z:=aG b;have i:=h.lj.lo;have y:W.cell? ⟨l,1,none⟩=some (.int .i64 cr):=by rw[aJ b 1];rfl
 have x:=aQ b 1;have w1:iw (cr+1)=cr+1:=iW;have w2:iw (1000000+cr)=1000000+cr:=iW;go_enter (qz func135),ntmps135;go_wp2;go_ret;have p:=aU.sC W l 1 (vI (cr+1));have j:LJ (W.sA l 1 (vI (cr+1))) l m (cr+1) d J:=⟨i,u,aO b,dM a fun k f=>heap_setCell_other W ⟨l,1,none⟩ k _ (fun e=>by have⟨w,g⟩:=cL a k f;exact dP g b dC e)⟩
 have n:=h.jA j p sI (fun k f o c=>by
  obtain rfl:k=l:=by simpa using f
  rw[b] at c;cases c;exact⟨_,_,_,rfl,dC⟩)
 exact⟨rfl,⟨L,dl,n,rfl,q,v⟩,h.px n p rfl (fun t r=>by cases r) (fun k f=>.inl (by simpa using f))⟩
end
end Go.Mark
