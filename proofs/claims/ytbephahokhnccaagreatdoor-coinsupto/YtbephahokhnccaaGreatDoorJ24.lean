import Derived.Test.YtbephahokhnccaaGreatDoorJ8
import Derived.Test.YtbephahokhnccaaGreatDoorJ23
set_option linter.all false
set_option maxRecDepth 100000
set_option maxHeartbeats 8000000
namespace Go.Mark
open Go.RowKit Go.Proofs Go.Proofs.Tryz
variable{A A':AM}{a1 a2 a:Ac}{dp li:Addr}{data:Lp}{dm:Dm}{cr src i aS dst nonce j:Int}{C:Kc}{L:List (Int×Nat×Ac)}{J J':K3}{l m c T d x p1 p2 mc pw b c' y B dmb:Nat}{o:Od}{s:St}{t:Fh}{v:vZ}{W w w' W':WR}
section
variable [aB]
attribute [local go_sem] wd
def Bo(W:WR)(C:Kc)(s:St)(src:Int)(g:Nat)(v:vZ)(w':WR):Prop:=
 ∃a c n,a.D=s.D/\a.N=s.N/\a.xs=s.xs/\a.back=s.back/\Rz s.A src a.A/\Mi w' C c/\Ex n s c/\n<=g+30030/\Px TT W w'/\
  ((∃(b:Nat) (t:Lp),v=.iface 174 (.agg #[.int .i64 (b:Int),.string t])/\b<=g)\/
   (∃(b:Nat) (id:Int),v=.iface 177 (.agg #[.int .i64 (b:Int),.int .i64 id])/\b<=g)\/
   (∃(h:Int) (f:Nat) (e:Addr),v=.iface 217 (.agg #[.int .i64 h,.iface 299 (pq f 0)])/\(∃d,w'.heap[f]?=ob d 303/\d[2]?=some (.iface 407 (.pointer (some e))))/\Eo w' C.dp C.li e/\c=c.un a))
def tg(t:Lp)(w:WR):∃c w',(convert 9 31 (.string t)).run zQ.prog w=.ok (.slice (some ⟨w.heap.size,0,none⟩) t.size c) w'/\t.size<=c/\Below w.heap.size w w'/\∃d e,w'.heap[w.heap.size]?=some (.cells d 5 e)/\∀i,i<t.size->∃b:Nat,b<256/\d[i]?=some (.int .u8 b):=by
 refine⟨_,_,run_bytes_of_string w 9 31 5 t ((aC 9).tr underlying9) ((aC 31).tr underlying31) ((aC 5).tr underlying5),?_,bR.drew.aL lR _,_,_,aM w.drew _,fun i a=>?_⟩
 .exact grownCap_ge _ _ _ _
 .exact⟨(t.data[i]'a).toNat,(t.data[i]'a).toNat_lt,bytesRow_at t _ i a⟩
def Ce.bo{q:Nat}{Z:Prop}{c j:St}{r:WR}{g:Nat}(h:Ce q Z r C j c g v W')(D:q<=30020)(l:¬Z){k:Nat}(y:Ex k s j)(B:k<=4)(p2:Px TT W r)(d:c.D=s.D/\c.N=s.N/\c.xs=s.xs/\c.back=s.back/\Rz s.A src c.A):Bo W C s src g v W':=by
 obtain⟨u,n,z,x,A,m⟩:=h;refine⟨c,u,k+n,d.1,d.2.1,d.2.2.1,d.2.2.2.1,d.2.2.2.2,z,y.tr x,?_,p2.tr A,?_⟩
 .rcases m with⟨e,i,b,a,h3,h4⟩| ⟨e,id,b,a,h3⟩| ⟨o,p,f,b,a,h4,w,t⟩| ⟨f,b,a,h3,_⟩
  .omega
  .omega
  .omega
  .exact absurd h3 l
 .rcases m with⟨e,i,b,a,h3,h4⟩| ⟨e,id,b,a,h3⟩| ⟨o,p,f,b,a,h4,w,t⟩| ⟨f,b,a,h3,_⟩
  .exact .inl ⟨e,i,b,a⟩
  .exact .inr (.inl ⟨e,id,b,a⟩)
  .exact .inr (.inr ⟨o,p,f,b,a,h4,t⟩)
  .exact absurd h3 l
def Ct(hm:Mi W C s)(aa:aB.b1<=W.heap.size)(src dst nonce:Int)(val g:Nat)(l:Int)(data:Lp)(aS:Int)(w:Ir src)(a6:Ir dst)(hv:val<M)(a4:data.size<=2000)(hg:g<=1000000)(I:(Od.at ⟨src,dst,nonce,val,(g:Int),l,data,aS⟩:Nat)<=g)(hc:s.c<385000000000)(ac:s.depth=0)(q:val<=(gt s.A src).cn)(a5:C.cm->dst≠0):
    Cq 52 #[pq C.mc 0,pq C.l 0,.agg (Od.cs ⟨src,dst,nonce,val,(g:Int),l,data,aS⟩)] W fun e w'=>∃t v,e=.rt (.iface t v)/\Bo W C s src (g - Od.at ⟨src,dst,nonce,val,(g:Int),l,data,aS⟩) (.iface t v) w':=by
 have n:Bw W (W.alloc (.ce (Od.cs ⟨src,dst,nonce,val,(g:Int),l,data,aS⟩) 43)):=ba;have X:=aM W (.ce (Od.cs ⟨src,dst,nonce,val,(g:Int),l,data,aS⟩) 43);have m0:=hm.below n;obtain⟨F,h⟩:∃k,k=Od.at ⟨src,dst,nonce,val,(g:Int),l,data,aS⟩:=⟨_,rfl⟩;rw[<-h] at I⊢;obtain⟨r,L⟩:∃r,r=g - F:=⟨_,rfl⟩;rw[<-L];have i1:IntKind.i64.wrap ((g:Int) - (F:Int))=(r:Int):=by rw[IntWalk.i64_in _ ⟨oM,oM⟩];omega
 have p:r<9000000:=oM
 have ad:r<=1000000:=oM
 have d:=gx ⟨src,dst,nonce,val,(g:Int),l,data,aS⟩ a4;rw[<-h] at d;clear h L I;go_enter (qz func52),ntmps52;unfold Od.cs;go_wp2_with fail;change Code.wp _ _ _ _ (W.alloc (.ce (Od.cs ⟨src,dst,nonce,val,(g:Int),l,data,aS⟩) 43));generalize W.alloc (.cells (Od.cs ⟨src,dst,nonce,val,(g:Int),l,data,aS⟩) 43)=w0 at n X m0⊢;have Z:W.heap.size<=W.heap.size:=aAz _;generalize D:W.heap.size=B at X⊢;refine rq (fun V=>V.heap[B]?=ob (Od.cs ⟨src,dst,nonce,val,(g:Int),l,data,aS⟩) 43) X fun a=>?_;refine t1 0 a ?_;refine tV 1 (fun _ hW=>bq (hW) 7) a ?_;refine tV 2 (fun _ hW=>Re (hW)) a ?_;refine rA 3 fun K J=>?_;go_simp;apply(d _).mono;rintro e V1 ⟨rfl,x⟩;go_wp2_with fail;refine J.out _ _ (bk x a) fun a=>?_;refine rA 4 fun K J=>?_;go_simp;refine J.out _ _ a fun a=>?_;refine rA 5 fun K J=>?_;go_simp;refine J.out _ _ a fun a=>?_;refine dn ?_;have m:Bw W V1:=n.drew.tr (x.mono n.size);have m1:=hm.below m;have b1:=aG a;have U:=m.size;have b3:=US D;clear D Z x;have R:=bq a 0;have P:=bq a 1;have c3:=bq a 3;have c4:=bq a 4;have T:=bq a 5;have Q:=bq a 6;have O:=bq a 9;by_cases a7:dst=0
 · have N:=RM m1 (aAw aa U) src w val hv (t:=data) oM p (fun c=>a5 c a7) oM (gj r)
   go_wp2_with fail;apply N.mono;rintro e w2 ⟨t,v,rfl,j⟩;clear N R P c3 c4 T Q O;go_wp2;go_ret;rcases j with⟨s0,z1,S,z3,z4,z5,j⟩| ⟨er,_,_,u,_⟩
   · exact⟨t,v,rfl,j.bo lR id (Ex.refl s) oM (Px.aF m _) ⟨z1,S,z3,z4,z5⟩⟩
   · exact absurd ⟨oM,q⟩ u.out
 · have A:=fq m1 src w oM
   go_wp2_with fail;apply A.mono;rintro e w2 ⟨rfl,s2,m2,Y,p2,n2,k2,b2,d2,S⟩;clear A R P c3 c4 T Q O;have b:=p2.row a;have al:=aG b;have R:=bq b 0;have P:=bq b 1;have c3:=bq b 3;have c4:=bq b 4;have T:=bq b 5;have Q:=bq b 6;have O:=bq b 9;have⟨cc,w3,a3,a9,o,cs,fz,f,G⟩:=tg data w2;have m3:=m2.below o;have y:aB.b0<=w3.heap.size:=aAw m2.ge.low o.size;have E:=aG f;have ar:=Y.c.2;have b0:=Y.dp;have z:= @KC ⟨aB.b0,w3.heap.size,y⟩ w3 C s2 r ⟨some ⟨w2.heap.size,0,none⟩,data.size,cc⟩ (Mi.base m3) lR (.inr ⟨_,0,cs,fz,rfl,E,f,fun i hi=>by rw[aAM];exact G i hi⟩) ⟨a9,by show data.size<_;omega⟩ src dst w a6 val hv p oM (gj r);have H:Shut (aB.b1<=w3.heap.size):=by have:=p2.size;have:=o.size;show _<=_;omega
   have a0:Px TT W w3:=((Px.aF m _).tr (p2.mono dC)).tr (Px.aF o _);clear f G E;go_wp2_with fail;apply z.mono;rintro e w4 ⟨t,v,rfl,j⟩;clear z R P c3 c4 T Q O a3;go_wp2;go_ret;have a8:=Ce.base (h1:=aB.le) H.out j;exact⟨t,v,rfl,a8.bo dC (fun u=>u ⟨oM,by rw[Cs S];exact q⟩) Y oM a0 ⟨d2,n2,k2,b2,S⟩⟩
structure RO where
 cB:Bool
 s:Lp
 left:Int
 back:Int
 k:Int
 id:Int
def Cu{a:Nat}{c c':Ff}(g:w.heap[a]?=ob c 34)(f:w'.heap[a]?=ob c' 34)(b:aU [a] [] w w')(e:aB.b0<=a):Px [34] w w':=
 b.px (fun k d _=>by rw[aAB.1 d,g,f];exact⟨by simp[kd],by simpa[kd,lw,aB.lo] using e,rfl⟩) (fun t h=>by cases h)
def Pq{z u:Int}{X Z:Prop}{S1:K6}{S2:Nat->Fh->vZ->RO->K6}{S4 S5:RO->K6}(cv:aB.b0<=W.heap.size)(a6:X->∃g p:Nat,z=(g:Int)/\u=(p:Int)/\g<100000000/\p<100000000)(hr:∀w,Bw W w->Cq 48 #[pq l 0,.agg (Od.cs ⟨src,dst,nonce,x,z,u,data,aS⟩)] w fun e w'=>(Pp e/\Z\/e=.rt (vI 0)/\Shut X)/\Bw w w')(ht:X->∀w,Bw W w->Cq 49 #[pq l 0,vI src,wd (z.toNat*u.toNat)] w fun e w'=>e=rU/\S1 w'/\Kp W.heap.size w w')(bi:Ic S1)(hb:X->∀w mc,S1 w->W.heap.size<=mc->w.heap[mc]?=ob (aZ l ⟨none,0,0⟩ 0 0) 165->Cq 52 #[pq mc 0,pq l 0,.agg (Od.cs ⟨src,dst,nonce,x,z,u,data,aS⟩)] w fun e w'=>∃t v r,e=.rt (.iface t v)/\S2 mc t v r w'/\Kp W.heap.size w w')(b2:∀mc t v r,Ic (S2 mc t v r))(bf:∀w mc t v r,S2 mc t v r w->Cq 53 #[pq mc 0,.iface t v] w fun e w'=>∃lv:SV,e=.rt (.agg (fM r.cB 0 r.id lv r.s))/\Bw w w'/\(r.cB=false->lv.n=0))(a0:∀w mc t v r,S2 mc t v r w->∃fn rv,(∀w,(Go.method 543 t v "Left").run zQ.prog w=.ok (fn,rv) w)/\(∀args w,(callFunc fn args).run zQ.prog w=.ok (.enter fn args) w)/\Cq fn #[rv] w fun e w'=>e=.rt (vI r.left)/\Bw w w')(bn:∀w mc t v r,S2 mc t v r w->Cq 55 #[pq mc 0] w fun e w'=>e=.rt (vI r.back)/\w'=w)(a8:∀w mc t v r,S2 mc t v r w->Cq 54 #[pq l 0,.agg (Od.cs ⟨src,dst,nonce,x,z,u,data,aS⟩),vI r.left,vI r.back] w fun e w'=>e=.rt (vI r.k)/\S4 r w'/\Kp W.heap.size w w')(bd:∀w r,S4 r w->Cq 56 #[pq l 0] w fun e w'=>e=rU/\S5 r w'/\Kp W.heap.size w w')(b9:∀r w w',S4 r w->Px [34] w w'->Below W.heap.size w w'->S4 r w')(a5:∀r w w',S5 r w->Px [34] w w'->Below W.heap.size w w'->S5 r w'):
  Cq 33 #[pq l 0,.agg (Od.cs ⟨src,dst,nonce,x,z,u,data,aS⟩)] W fun e w'=>(∃y:Int,y≠0/\e=.rt (.tuple #[.agg (fM false 0 0 ⟨none,0,0⟩ ⟨#[]⟩),.iface 90 (.agg #[vI y])])/\Bw W w'/\Z)\/∃(r:RO) (lv:SV),e=.rt (.tuple #[.agg (fM r.cB r.k r.id lv r.s),.nilIface])/\X/\S5 r w'/\(r.cB=false->lv.n=0):=by
 have cl:=US hr;have b4:=US ht;have bb:=US bi;have bs:=US hb;have j:=US b2;have bl:=US bf;have b8:=US a0;have bj:=US bn;have a4:=US a8;have a3:=US bd;have b3:=US b9;have bg:=US a5;clear hr ht bi hb b2 bf a0 bn a8 bd b9 a5;have M:Bw W ((W.alloc (.ce (Od.cs ⟨src,dst,nonce,x,z,u,data,aS⟩) 43)).alloc (.ce rZ 34)):=(ba).alloc sI _;have ho:((W.alloc (.ce (Od.cs ⟨src,dst,nonce,x,z,u,data,aS⟩) 43)).alloc (.ce rZ 34)).heap[W.heap.size]?=ob (Od.cs ⟨src,dst,nonce,x,z,u,data,aS⟩) 43:=aT (aM W _);have cq:((W.alloc (.ce (Od.cs ⟨src,dst,nonce,x,z,u,data,aS⟩) 43)).alloc (.ce rZ 34)).heap[W.heap.size+1]?=ob rZ 34:=by have:=aM (W.alloc (.ce (Od.cs ⟨src,dst,nonce,x,z,u,data,aS⟩) 43)) (.ce rZ 34);simpa using this
 have a:=cl.out _ M;go_enter (qz func33),ntmps33;unfold Od.cs at a⊢;go_wp2_with fail;apply a.mono;rintro e w1 ⟨he,k⟩;clear a;have S:=M.tr (k.mono M.size);have cd:=bk k ho;have a:=bk k cq;rcases he with⟨⟨y,hy,rfl⟩,hz⟩| ⟨rfl,b7⟩
 .have d0:=aG a;have P:=bq a 0;have z0:=aQ a 0;have J:=bq a 1;have z1:=aQ a 1;have T:=bq a 2;have z2:=aQ a 2;have G:=bq a 3;have z3:=aQ a 3;have R:=bq a 4;have z4:=aQ a 4;have c:=aO (i:=4) (v:=.string ⟨#[]⟩) (aO (i:=3) (v:=.sl none 0 0) (aO (i:=2) (v:=vI 0) (aO (i:=1) (v:=vI 0) (aO (i:=0) (v:=.bool false) (a)))));have o:=(((((S).setCell (p:=(ad (W.heap.size+1) 0)) (by exact aBx _) (.bool false)).setCell (p:=(ad (W.heap.size+1) 1)) (by exact aBx _) (vI 0)).setCell (p:=(ad (W.heap.size+1) 2)) (by exact aBx _) (vI 0)).setCell (p:=(ad (W.heap.size+1) 3)) (by exact aBx _) (.sl none 0 0)).setCell (p:=(ad (W.heap.size+1) 4)) (by exact aBx _) (.string ⟨#[]⟩);go_wp2;generalize((((((w1.setCell ⟨W.heap.size+1,0,none⟩ (.bool false)).setCell ⟨W.heap.size+1,1,none⟩ (.int .i64 0)).setCell ⟨W.heap.size+1,2,none⟩ (.int .i64 0)).setCell ⟨W.heap.size+1,3,none⟩ (.slice none 0 0)).setCell ⟨W.heap.size+1,4,none⟩ (.string ⟨#[]⟩)))=VC at c o⊢;clear P J T G R;have P:=bq c 0;have J:=bq c 1;have T:=bq c 2;have G:=bq c 3;have R:=bq c 4;simp[bodyPost,results,results33,go_sem,P,J,T,G,R];exact⟨y,hy,⟨rfl,rfl⟩,o,hz⟩
 have hX:X:=b7.out;clear b7;obtain⟨g,p,rfl,rfl,hg,hp⟩:=a6 hX;simp only[aBM] at b4;clear a6;go_wp2_with fail;refine rq (fun V=>V.heap[W.heap.size]?=ob (Od.cs ⟨src,dst,nonce,x,(g:Int),(p:Int),data,aS⟩) 43/\V.heap[W.heap.size+1]?=ob rZ 34) ⟨cd,a⟩ fun b=>?_;refine t2 0 1 b ?_;refine tV 2 (fun _ i=>bq i.1 0) b ?_;refine t1 3 b ?_;refine tV 4 (fun _ i=>bq i.1 7) b ?_;refine t1 5 b ?_;refine tV 6 (fun _ i=>bq i.1 8) b ?_;refine rA 7 fun K n=>?_;go_simp;apply(jH g p hg hp _).mono;rintro e V1 ⟨rfl,k⟩;go_wp2_with fail;refine n.out _ _ ⟨bk k b.1,bk k b.2⟩ fun b=>?_;have Y:Bw W V1:=S.tr (((Below.refl _ w1).drew.tr k).mono S.size);refine rA 8 fun K n=>?_;go_simp;apply(b4.out hX V1 Y).mono;rintro e V2 ⟨rfl,h1,a7⟩;have ca:=US h1;clear h1;go_wp2_with fail;refine n.out _ _ ⟨a7.2 _ _ _ lR (.inl rfl) b.1,a7.2 _ _ _ oM (.inr rfl) b.2⟩ fun b=>?_;refine dn ?_;have ct:=aG b.2;have bh:=Cl l V2;go_wp2_with fail;apply bh.mono;rintro e V3 ⟨rfl,O,N⟩;clear bh;have br:=bb.out _ _ ca.out N;generalize cs:V2.heap.size=mc at O⊢;have I:=bs.out hX V3 mc br oM O;have d:=bk N b.1;have bz:=bk N b.2;clear Y O;have cy:=aG d;have c0:=bq d 0;have c1:=bq d 1;have c2:=bq d 2;have c3:=bq d 3;have c4:=bq d 4;have c5:=bq d 5;have c6:=bq d 6;have c7:=bq d 7;have c8:=bq d 8;have c9:=bq d 9;have XU:=bq d 10;unfold Od.cs at I;go_wp2_with fail;apply I.mono;rintro e V4 ⟨t,v,r,rfl,h2,bm⟩;have bo:=US h2;clear I h2 c0 c1 c2 c3 c4 c5 c6 c7 c8 c9 XU;have cm:=bm.2 _ _ _ lR (.inl rfl) d;have ch:=bm.2 _ _ _ oM (.inr rfl) bz;have D:=bl.out V4 mc t v r bo.out;go_wp2_with fail;apply D.mono;rintro e H ⟨lv,rfl,o,cp⟩;clear D;have bt:=bk o cm;have c:=bk o ch;have bc:=j.out mc t v r _ _ bo.out o;have L:Bw H (H.alloc (.ce (fM r.cB 0 r.id lv r.s) 34)):=ba;have B:=aM H (.ce (fM r.cB 0 r.id lv r.s) 34);have b0:=bk L bt;have aa:=bk L c;have ac:=j.out mc t v r _ _ bc L;have s:=US ac;clear ac bc;unfold fM;go_wp2_with fail;change Code.wp _ _ _ _ (H.alloc (.ce (fM r.cB 0 r.id lv r.s) 34));generalize H.alloc (.cells (fM r.cB 0 r.id lv r.s) 34)=V6 at B b0 aa s⊢;have al:W.heap.size+1<H.heap.size:=aG c;generalize H.heap.size=E at B al⊢;have⟨fn,rv,cc,bv,ar⟩:=b8.out V6.drew mc t v r (j.out mc t v r _ _ s.out bR.drew);refine rq (fun V=>V.heap[W.heap.size]?=ob (Od.cs ⟨src,dst,nonce,x,(g:Int),(p:Int),data,aS⟩) 43/\V.heap[W.heap.size+1]?=ob rZ 34) ⟨b0,aa⟩ fun b=>?_;refine t1 0 b ?_;refine tD 1 38 (.agg (Od.cs ⟨src,dst,nonce,x,(g:Int),(p:Int),data,aS⟩)) (fun V i=>?_) b ?_
 .have k0:=bq i.1 0;have k1:=bq i.1 1;have k2:=bq i.1 2;have k3:=bq i.1 3;have k4:=bq i.1 4;have k5:=bq i.1 5;have k6:=bq i.1 6;have k7:=bq i.1 7;have k8:=bq i.1 8;have k9:=bq i.1 9;have d5:=bq i.1 10;clear i b;unfold Od.cs;go_simp
 refine t2 2 4 b ?_;refine rA 3 fun K n=>?_;go_simp;apply ar.mono;rintro e V7 ⟨rfl,C⟩;clear ar;go_wp2_with fail;refine n.out _ _ ⟨bk C b.1,bk C b.2⟩ fun b=>?_;clear n K cc bv;have F:Shut (S2 mc t v r V7):=j.out mc t v r _ _ (j.out mc t v r _ _ s.out bR.drew) C;have b6:=(C.block E (aG B)).tr B;refine rA 5 fun K n=>?_;go_simp;apply(bj.out V7 mc t v r F.out).mono;rintro e V8 ⟨rfl,bw⟩;subst bw;go_wp2_with fail;refine n.out _ _ b fun b=>?_;refine rA 6 fun K n=>?_;go_simp;apply(a4.out _ mc t v r F.out).mono;rintro e V9 ⟨rfl,h4,Q⟩;have bx:=US h4;clear h4;go_wp2_with fail;refine n.out _ _ ⟨Q.2 _ _ _ lR (.inl rfl) b.1,Q.2 _ _ _ oM (.inr rfl) b.2⟩ fun b=>?_;have m:=Q.2 _ _ _ oM (.inr rfl) b6;have e1:=bq m 1;have z1:=aQ m 1;refine rA 7 fun K n=>?_;go_simp;refine n.out _ _ b fun b=>?_;refine rA 8 fun K n=>?_;go_simp;refine n.out _ _ ⟨aD b.1 oM,aD b.2 oM⟩ fun b=>?_;refine dn ?_;have q:(V9.setCell ⟨E,1,none⟩ (vI r.k)).heap[E]?=ob (fM r.cB r.k r.id lv r.s) 34:=aO (i:=1) m;have a9:S4 r (V9.setCell ⟨E,1,none⟩ (vI r.k)):=b3.out _ _ _ bx.out (Cu m q (aU.setCell V9 E 1 _) oM) ((Below.refl W.heap.size V9).setCell (p:=(ad E 1)) (by show W.heap.size<=E;omega) _);have A:=a3.out _ _ a9;generalize V9.setCell ⟨E,1,none⟩ (.int .i64 r.k)=VA at b q A⊢;clear e1 z1 a9;go_wp2_with fail;apply A.mono;rintro e U ⟨rfl,h5,b1⟩;have cb:=US h5;clear h5 A;have h:=b1.2 _ _ _ oM (.inr rfl) q;have f:=b1.2 _ _ _ oM (.inr rfl) b.2;have cw:=aG h;have e0:=bq h 0;have P:=bq f 0;have z0:=aQ f 0;have e1:=bq h 1;have J:=bq f 1;have z1:=aQ f 1;have e2:=bq h 2;have T:=bq f 2;have z2:=aQ f 2;have e3:=bq h 3;have G:=bq f 3;have z3:=aQ f 3;have e4:=bq h 4;have R:=bq f 4;have z4:=aQ f 4;have ck:aU [W.heap.size+1] [] U (((((U.setCell ⟨W.heap.size+1,0,none⟩ (.bool r.cB)).setCell ⟨W.heap.size+1,1,none⟩ (vI r.k)).setCell ⟨W.heap.size+1,2,none⟩ (vI r.id)).setCell ⟨W.heap.size+1,3,none⟩ (.sl lv.a lv.n lv.c)).setCell ⟨W.heap.size+1,4,none⟩ (.string r.s)):=((((aU.setCell U (W.heap.size+1) 0 _).tr (aU.setCell _ (W.heap.size+1) 1 _)).tr (aU.setCell _ (W.heap.size+1) 2 _)).tr (aU.setCell _ (W.heap.size+1) 3 _)).tr (aU.setCell _ (W.heap.size+1) 4 _);have c:(((((U.setCell ⟨W.heap.size+1,0,none⟩ (.bool r.cB)).setCell ⟨W.heap.size+1,1,none⟩ (vI r.k)).setCell ⟨W.heap.size+1,2,none⟩ (vI r.id)).setCell ⟨W.heap.size+1,3,none⟩ (.sl lv.a lv.n lv.c)).setCell ⟨W.heap.size+1,4,none⟩ (.string r.s)).heap[W.heap.size+1]?=ob (fM r.cB r.k r.id lv r.s) 34:=aO (i:=4) (aO (i:=3) (aO (i:=2) (aO (i:=1) (aO (i:=0) f))));have b5:=bg.out _ _ _ cb.out (Cu f c ck oM) ((((((Below.refl W.heap.size U).setCell (p:=(ad (W.heap.size+1) 0)) (by exact aBx _) _).setCell (p:=(ad (W.heap.size+1) 1)) (by exact aBx _) _).setCell (p:=(ad (W.heap.size+1) 2)) (by exact aBx _) _).setCell (p:=(ad (W.heap.size+1) 3)) (by exact aBx _) _).setCell (p:=(ad (W.heap.size+1) 4)) (by exact aBx _) _);go_wp2;generalize((((U.setCell ⟨W.heap.size+1,0,none⟩ (.bool r.cB)).setCell ⟨W.heap.size+1,1,none⟩ (.int .i64 r.k)).setCell ⟨W.heap.size+1,2,none⟩ (.int .i64 r.id)).setCell ⟨W.heap.size+1,3,none⟩ (.slice lv.a lv.n lv.c)).setCell ⟨W.heap.size+1,4,none⟩ (.string r.s)=VC at c b5⊢;clear P J T G R;have P:=bq c 0;have J:=bq c 1;have T:=bq c 2;have G:=bq c 3;have R:=bq c 4;simp[bodyPost,results,results33,go_sem,P,J,T,G,R];exact⟨r,lv,rfl,hX,b5,cp⟩
def ye{g p:Int}{Q:Bool->Int->Int->SV->Lp->vZ->K6}(z:W.cell? ⟨pw,0,none⟩=some (pq l 0))(G:pw<W.heap.size)(U:∀w,Bw W w->Cq 33 #[pq l 0,.agg (Od.cs ⟨src,dst,nonce,x,g,p,data,aS⟩)] w fun e w'=>∃c k id lv s h,e=.returned (.tuple #[.agg (fM c k id lv s),h])/\Q c k id lv s h w'/\Kp W.heap.size w w'/\w'.cell? ⟨pw,0,none⟩=W.cell? ⟨pw,0,none⟩)(a0:aB.b0<=W.heap.size)(X:∀c k id lv s h w w',Q c k id lv s h w->Px [34] w w'->Below W.heap.size w w'->Q c k id lv s h w'):
    Cq 15 #[pq pw 0,.agg (Od.cs ⟨src,dst,nonce,x,g,p,data,aS⟩)] W fun e w'=>∃c k id lv s h,e=.returned (.tuple #[.agg (fM c k id lv s),h])/\Q c k id lv s h w':=by
 have r:Bw W ((W.alloc (.cells (Od.cs ⟨src,dst,nonce,x,g,p,data,aS⟩) 43)).alloc (.cells #[.bool false,vI 0,vI 0,.slice none 0 0,.string ⟨#[]⟩] 34)):=(ba).alloc sI _;have L:((W.alloc (.cells (Od.cs ⟨src,dst,nonce,x,g,p,data,aS⟩) 43)).alloc (.cells #[.bool false,vI 0,vI 0,.slice none 0 0,.string ⟨#[]⟩] 34)).heap[W.heap.size]?=ob (Od.cs ⟨src,dst,nonce,x,g,p,data,aS⟩) 43:=aT (aM W _);have u:((W.alloc (.cells (Od.cs ⟨src,dst,nonce,x,g,p,data,aS⟩) 43)).alloc (.cells #[.bool false,vI 0,vI 0,.slice none 0 0,.string ⟨#[]⟩] 34)).heap[W.heap.size+1]?=ob #[.bool false,vI 0,vI 0,.slice none 0 0,.string ⟨#[]⟩] 34:=by have:=aM (W.alloc (.cells (Od.cs ⟨src,dst,nonce,x,g,p,data,aS⟩) 43)) (.cells #[.bool false,vI 0,vI 0,.slice none 0 0,.string ⟨#[]⟩] 34);simpa using this
 have m:=(r.cell (p:=⟨pw,0,none⟩) G).trans z;have t:=US (U _ r.drew);clear U;have b:W.heap.size<=W.heap.size+1:=aBx _;have D:W.heap.size<W.heap.size+1:=Nat.lt_succ_self _;go_enter (qz func15),Tryz.ntmps15;unfold Od.cs;go_wp2_with fail;change Code.wp _ _ _ _ ((W.alloc (.cells (Od.cs ⟨src,dst,nonce,x,g,p,data,aS⟩) 43)).alloc (.cells #[.bool false,vI 0,vI 0,.slice none 0 0,.string ⟨#[]⟩] 34));generalize((W.alloc (.cells (Od.cs ⟨src,dst,nonce,x,g,p,data,aS⟩) 43)).alloc (.cells #[.bool false,.int .i64 0,.int .i64 0,.slice none 0 0,.string ⟨#[]⟩] 34))=w1 at r L u m t⊢;generalize T:W.heap.size+1=R at u b D⊢;have Y:=US T;clear T;generalize P:W.heap.size=B at L D⊢;have E:W.heap.size<=B:=aBz P;have Z:=US P;clear P;refine rq (fun V=>V.cell? ⟨pw,0,none⟩=some (pq l 0)/\V.heap[B]?=ob (Od.cs ⟨src,dst,nonce,x,g,p,data,aS⟩) 43) ⟨m,L⟩ fun i=>?_;refine t3 0 1 2 i ?_;refine tV 3 (fun _ H=>H.1) i ?_;refine tV 4 (fun _ H=>Re (H.2)) i ?_;refine rA 5 fun K q=>?_;go_simp;refine Calls.mono t.out ?_;rintro e j ⟨c,k,id,lv,s,h,rfl,S,A,C⟩;have I:=US S;clear S;go_wp2_with fail;refine q.out _ _ ⟨C.trans z,A.2 _ _ _ E (.inl rfl) i.2⟩ fun i=>?_;clear q K t;refine t2 6 7 i ?_;have a:=A.2 _ _ _ oM (.inr rfl) u;have F:=bq a 0;have z0:=aQ a 0;have M:=bq a 1;have z1:=aQ a 1;have J:=bq a 2;have z2:=aQ a 2;have N:=bq a 3;have z3:=aQ a 3;have O:=bq a 4;have z4:=aQ a 4;unfold fM;refine rA 8 fun K q=>?_;go_simp;have o:aU [R] [] j (((((j.setCell ⟨R,0,none⟩ (.bool c)).setCell ⟨R,1,none⟩ (vI k)).setCell ⟨R,2,none⟩ (vI id)).setCell ⟨R,3,none⟩ (.slice lv.a lv.n lv.c)).setCell ⟨R,4,none⟩ (.string s)):=((((aU.setCell j R 0 _).trans (aU.setCell _ R 1 _)).trans (aU.setCell _ R 2 _)).trans (aU.setCell _ R 3 _)).trans (aU.setCell _ R 4 _);have d:(((((j.setCell ⟨R,0,none⟩ (.bool c)).setCell ⟨R,1,none⟩ (vI k)).setCell ⟨R,2,none⟩ (vI id)).setCell ⟨R,3,none⟩ (.slice lv.a lv.n lv.c)).setCell ⟨R,4,none⟩ (.string s)).heap[R]?=ob (fM c k id lv s) 34:=aO (i:=4) (aO (i:=3) (aO (i:=2) (aO (i:=1) (aO (i:=0) (a)))));have v:=X _ _ _ _ _ _ _ _ I.out (Cu a d o oM) ((((((Below.refl W.heap.size j).setCell (p:=⟨R,0,none⟩) b _).setCell (p:=⟨R,1,none⟩) b _).setCell (p:=⟨R,2,none⟩) b _).setCell (p:=⟨R,3,none⟩) b _).setCell (p:=⟨R,4,none⟩) b _);have n:(((((j.setCell ⟨R,0,none⟩ (.bool c)).setCell ⟨R,1,none⟩ (vI k)).setCell ⟨R,2,none⟩ (vI id)).setCell ⟨R,3,none⟩ (.slice lv.a lv.n lv.c)).setCell ⟨R,4,none⟩ (.string s)).cell? ⟨pw,0,none⟩=j.cell? ⟨pw,0,none⟩:=by
   have f:pw≠R:=oM
   rw[fV _ _ _ _ _ f,fV _ _ _ _ _ f,fV _ _ _ _ _ f,fV _ _ _ _ _ f,fV _ _ _ _ _ f]
 have y:(((((j.setCell ⟨R,0,none⟩ (.bool c)).setCell ⟨R,1,none⟩ (vI k)).setCell ⟨R,2,none⟩ (vI id)).setCell ⟨R,3,none⟩ (.slice lv.a lv.n lv.c)).setCell ⟨R,4,none⟩ (.string s)).heap[B]?=_:=o.obj i.2 (by simp[qB]) (by simp;exact oM);generalize(((((j.setCell ⟨R,0,none⟩ (.bool c)).setCell ⟨R,1,none⟩ (.int .i64 k)).setCell ⟨R,2,none⟩ (.int .i64 id)).setCell ⟨R,3,none⟩ (.slice lv.a lv.n lv.c)).setCell ⟨R,4,none⟩ (.string s))=V2 at o d v n y⊢;refine q.out _ _ ⟨n.trans i.1,y⟩ fun i=>?_;clear q K F M J N O;refine rA 9 fun K q=>?_;go_simp;refine q.out _ _ i fun i=>?_;refine dn ?_;have F:=bq d 0;have M:=bq d 1;have J:=bq d 2;have N:=bq d 3;have O:=bq d 4;go_wp2;simp[bodyPost,results,Tryz.results15,go_sem,F,M,J,N,O];cases c
 · exact .inl ⟨k,id,lv,s,h,⟨rfl,rfl⟩,v⟩
 · exact .inr ⟨k,id,lv,s,h,⟨rfl,rfl⟩,v⟩
end
section
variable [aB]
structure RP (W:WR) (l m d:Nat) (cr:Int) (A:AM) (dp li:Addr) (c T:Nat) (cm:Prop):Prop where
 lf:LF W l m d cr A (fun _=>False) []
 ge:Ge W dp li
 av:∀i b v,A i=some (b,v)->jI W v c
 sup:mC A c
 bc:0<=cr/\cr*30000<=c
 tq:Tq T cm A (fun _=>False)
def RP.px{e:Prop}{X:K4}(h:RP W l m d cr A dp li c T e)(a:Px X W W')(f:128∉X/\136∉X/\262∉X/\1000∉X)(h4:4∉X):RP W' l m d cr A dp li c T e:=
 ⟨h.lf.XV a f,h.ge.px a,fun i b v g=>(h.av i b v g).px a h4 lR,h.sup,h.bc,h.tq⟩
def RP.below{a:Prop}(h:RP W l m d cr A dp li c T a)(b:Bw W W'):RP W' l m d cr A dp li c T a:=h.px (Px.aF b []) sI sI
def xz{v:Av}(a:∀i b v,A i=some (b,v)->jI W v c)(d:Tc A i b v J J'):jI W v c:=by
 rcases d with⟨e,_⟩| ⟨_,⟨ms,rfl⟩,_⟩
 .exact a i b v e
 .exact xo _ _ _
def OZ{v:Av}(d:∀i b v,A i=some (b,v)->jI W v c)(g:c<=c')(f:jI W v c'):∀j e u,up A i (some (b,v)) j=some (e,u)->jI W u c':=fun j e u a=>by
 unfold up at a;split at a
 .cases a;exact f
 .exact(d j e u a).px (Px.refl [] W) sI g
def jI.cn{v:Av}(h:jI W v c)(x:Nat):jI W {v with cn:=x} c:=⟨h.nonce,h.sup,h.row,h.code,h.mark⟩
def mC.ir(h:mC A c)(b:A i≠none):Ir i:=let⟨_,_,a,h3⟩:=h;h3 _ (a _ b)
structure M8 (W:WR) (l m d:Nat) (cr:Int) (A:AM) (c:Nat) (src:Int) (x:Nat) (w:WR):Prop where
 ex:∃b v,A src=some (b,v)/\LF w l m d cr (up A src (some (b,{v with cn:=(v.cn+M - x) % M}))) (fun _=>False) [kH b v.cn]
 px:Px LT W w
def M8.mi{g:Prop}(h:M8 W l m d cr A c src x w)(a:RP W l m d cr A dp li c T g)(k:x<=(gt A src).cn)(j:W.heap.size<=mc)(q:w.heap[mc]?=ob (aZ l ⟨none,0,0⟩ 0 0) 165):
  ∃b v,A src=some (b,v)/\Mi w ⟨mc,l,m,d,dp,li,T - x,g⟩ ⟨up A src (some (b,{v with cn:=(v.cn+M - x) % M})),fun _=>False,[kH b v.cn],cr,0,[],0,0,c+1⟩:=by
 have⟨b,v,f,n⟩:=h.ex;have e:∀i b v,A i=some (b,v)->jI w v c:=fun i b v p=>(a.av i b v p).px h.px dC lR;refine⟨b,v,f,n,⟨⟨none,0,0⟩,q,rfl,.inl ⟨rfl,rfl⟩⟩,aAw a.ge.low j,a.ge.px h.px,OZ e (aBx _) (((e _ _ _ f).px (Px.refl [] w) sI (aBx _)).cn _),sO a.sup src (a.sup.ir (by rw[f];simp)) _,?_,⟨aBa _,fun u o=>by cases o⟩,⟨a.bc.1,?_⟩,⟨aBq _,?_⟩,⟨aBq _,by show(0:Int)<=64;decide⟩,?_⟩
 .show 1<=c+1;omega
 .have:=a.bc.2;show cr*30000<=((c+1:Nat):Int);omega
 .show(0:Int)<=24000*((c+1:Nat):Int);omega
 .have r:(gt A src).cn=v.cn:=by unfold gt;rw[f];rfl
  have s:=vw a.tq.CL src;have lt:=a.tq.lt;rw[r] at k s;show Tq (T - x) g _ _;refine a.tq.up (J:=[]) (J':=[]) (.inl ⟨f,rfl⟩) ?_ (by omega) fun _=>rfl;show(v.cn+M - x) % M+T=v.cn+(T - x);rw[show v.cn+M - x=v.cn - x+M by omega,Nat.add_mod_right,aBS (by omega)];omega
def S8{c:Prop}{D:K7}(h:Sd A J src aS x y A' J')(a:Tq T c A D)(f:T+x+y<M):Tq (T+x+y) c A' D:=by obtain⟨b,v,k,l,d,j,t1,t2,rfl,_⟩:=h;have g:=vw a.CL src;rw[(H6 t1).1] at g;have e:=a.up (T':=T+x) (v':={v with cn:=(v.cn+x) % M}) t1 (by show(v.cn+x) % M+T=v.cn+(T+x);rw[aBS (by omega)];omega) (by omega) fun _=>rfl;have i:=vw e.CL aS;rw[(H6 t2).1] at i;exact e.up (T':=T+x+y) t2 (by show(d.cn+y) % M+(T+x)=d.cn+(T+x+y);rw[aBS (by omega)];omega) f fun _=>rfl
def Ie(h:Sd A J src aS x y A' J')(j:c+2<=c')(a:∀i b v,A i=some (b,v)->jI W v c)(g:mC A c)(f:Ir src)(d:Ir aS):(∀i b v,A' i=some (b,v)->jI W v c')/\mC A' c':=by obtain⟨b,v,m,n,l,k,t1,t2,rfl,_⟩:=h;have a1:∀i e u,up A src (some (b,{v with cn:=(v.cn+x) % M})) i=some (e,u)->jI W u c:=OZ a lR ((xz a t1).cn _);exact⟨OZ a1 oM (((xz a1 t2).cn _).px (Px.refl [] W) sI oM),(sO (sO g src f _) aS d _).mono j⟩
def Lv.below{c:Nat}(h:Lv W t v c)(e:Bw W W'):Lv W' t v c:=
 ⟨let⟨fn,a,b,k⟩:=h.ex;⟨fn,a,b,fun w d=>k w ((Px.aF e _).tr d)⟩,h.ty⟩
def Px.HI{T:K4}{u:WR}(h:Px T u w)(a:Below u.heap.size w w'):Px T u w':=
 ⟨a.os.tr h.os,a.tape.tr h.tape,a.output.tr h.output,aAw h.size a.size,fun k b=>by rw[a.block k b];exact h.block k b⟩
def Kp.px{T:K4}(h:Px T w w')(b:43∉T)(a:34∉T):Kp B w w':=
 ⟨h.size,fun k c t _ e d=>h.row d (by rcases e with rfl|rfl;exact b;exact a)⟩
def Qf(t:Fh)(v:vZ)(r:RO):Prop:=
 (t=174/\(∃(a:Int) (tx:Lp),v=.agg #[.int .i64 a,.string tx]/\r.s=tx)/\r.cB=true/\r.id=0)\/
 (t=177/\(∃(a:Int) (id:Int),v=.agg #[.int .i64 a,.int .i64 id]/\r.id=id)/\r.cB=true/\r.s=⟨#[]⟩)\/
 (t=217/\r.cB=false/\r.s=⟨#[]⟩/\r.id=0)
structure Cv (W:WR) (l m d:Nat) (A:AM) (dp li:Addr) (c T:Nat) (cm:Prop) (o:Od) (mc:Nat) (t:Fh) (v:vZ) (r:RO) (w:WR):Prop where
 ok:Ok A o
 ex:∃s:St,Mi w ⟨mc,l,m,d,dp,li,T - o.bP.toNat*o.bK.toNat,cm⟩ s/\s.c<=c+1030100/\Qf t v r/\r.back=s.back/\∃gl:Nat,r.left=(gl:Int)/\(gl:Int)+o.at<=o.bP/\Lv w t v gl/\r.k=(KI o.bP.toNat gl s.back.toNat:Int)
 le:o.bP.toNat*o.bK.toNat<=T/\T<M
 px:Px TT W w
structure Lh (W:WR) (l m d:Nat) (dp li:Addr) (c T:Nat) (cm:Prop) (w:WR):Prop where
 ex:∃(cr':Int) (A':AM) (D:K7) (J:K3) (c':Nat),LF w l m d cr' A' D J/\Ge w dp li/\(∀i b v,A' i=some (b,v)->jI w v c')/\mC A' c'/\(0<=cr'/\cr'*30000<=c')/\c'<=c+1030200/\Tq T cm A' D
 px:Px TT W w
structure M9 (W:WR) (l m d:Nat) (dp li:Addr) (c T:Nat) (cm:Prop) (w:WR):Prop where
 ex:∃(cr':Int) (A':AM) (c' T':Nat),RP w l m d cr' A' dp li c' T' cm/\c'<=c+1030200/\T'<=T/\(cm->T'=T)
 px:Px TT W w
def Cv.below{b:Prop}{r:RO}(h:Cv W l m d A dp li c T b o mc t v r w)(a:Bw w w'):Cv W l m d A dp li c T b o mc t v r w':=
 ⟨h.ok,let⟨s,j,i,h3,h4,e,n,f,k,g⟩:=h.ex;⟨s,j.below a,i,h3,h4,e,n,f,k.below a,g⟩,h.le,h.px.tr (Px.aF a _)⟩
def Ok.nat(h:Ok A o):∃g p:Nat,o.bP=(g:Int)/\o.bK=(p:Int)/\g<=1000000/\p<=1000000:=by have⟨c,b,a,h3,_⟩:=h.ok;exact⟨o.bP.toNat,o.bK.toNat,oM,oM,oM,oM⟩
def Cy{x:Prop}{v0:Av}(a:Ok A o)(y:Tq T x A (fun _=>False))(I:s=⟨up A o.src (some (b,{v0 with cn:=(v0.cn+M - o.bP.toNat*o.bK.toNat) % M})),fun _=>False,[kH b v0.cn],cr,0,[],0,0,c+1⟩)(E:Px LT W w)(K:Bo w ⟨mc,l,m,d,dp,li,T - o.bP.toNat*o.bK.toNat,x⟩ s o.src (o.bP.toNat - o.at) (.iface t v) w'):
  ∃r,Cv W l m d A dp li c T x o mc t v r w':=by
 obtain⟨U,e,n,R,P,Y,Q,N,q,C,hn,J,F⟩:=K;have⟨g,p,O,G,D,z⟩:=a.nat;have B:=a.bP;have H:s.c=c+1:=by rw[I]
 have j:o.bP.toNat*o.bK.toNat<=T/\T<M:=⟨by have:=a.cn;have:=vw y.CL o.src;omega,y.lt⟩
 have i:e.c<=c+1030100:=by have:=C.c.2;omega
 have f:Px TT W w':=(E.mono dC).tr J;rcases F with⟨h,tx,k,u⟩| ⟨h,id,k,u⟩| ⟨X,Z,L,k,⟨S,u,h3⟩,h4,V⟩
 .cases k;exact⟨⟨true,tx,(h:Int),e.back,(KI o.bP.toNat h e.back.toNat:Int),0⟩,a,⟨e,q,i,.inl ⟨rfl,⟨_,tx,rfl,rfl⟩,rfl,rfl⟩,rfl,h,rfl,oM,.JQ _ _,rfl⟩,j,f⟩
 .cases k;exact⟨⟨true,⟨#[]⟩,(h:Int),e.back,(KI o.bP.toNat h e.back.toNat:Int),id⟩,a,⟨e,q,i,.inr (.inl ⟨rfl,⟨_,id,rfl,rfl⟩,rfl,rfl⟩),rfl,h,rfl,oM,.made _ _,rfl⟩,j,f⟩
 .cases k;exact⟨⟨false,⟨#[]⟩,0,e.back,(KI o.bP.toNat 0 e.back.toNat:Int),0⟩,a,⟨e,q,i,.inr (.inr ⟨rfl,rfl,rfl,rfl⟩),rfl,0,rfl,oM,.bad q.ge u h3 h4 _,rfl⟩,j,f⟩
def Cv.pad{x:Prop}{r:RO}(h:Cv W l m d A dp li c T x o mc t v r w)(hc:c<380000000000)(Q:Ir o.src)(hv:o.val<M):
  Cq 54 #[pq l 0,.agg o.cs,vI r.left,vI r.back] w fun e w'=>e=.rt (vI r.k)/\Lh W l m d dp li c T x w'/\Kp W.heap.size w w':=by
 have⟨s,a,a0,a4,E,f,K,D,a3,N⟩:=h.ex;have⟨g,p,L,q,B,z⟩:=h.ok.nat;have G:=h.ok;have J:=h.le;have C:=a.bb;have⟨bk,u⟩:=aAW C.1;have k:Ir o.aS:=by have⟨_,_,_,_,_,_,_,h8,Z,_⟩:=G.ok;exact⟨oM,Z⟩
 obtain⟨src,dst,nonce,val,bP,bK,data,aS⟩:=o;simp only at L q k Q D hv;subst L q;rw[E,u,K];have F:((g:Int)).toNat=g:=rfl;have Y:((p:Int)).toNat=p:=rfl;have H:s.back.toNat=bk:=by rw[u];rfl
 simp only[F,H] at N;have j:f<=g:=oM
 refine(H8 a.lf src dst nonce val g p data aS f bk j B z oM (by have:=a.bj;omega)).mono ?_;rintro e w' ⟨rfl,⟨A',J',U,n⟩,y⟩;have P:=Ie (c':=s.c+2) n lR (fun i b v X=>(a.av i b v X).px y dC lR) a.sup Q k;have V:=gz g f bk;have I:Tq T x A' s.D:=by
  have e1:(g - KI g f bk)*p+KI g f bk*p=g*p:=by rw[<-aCf,Nat.sub_add_cancel V]
  have O:g*p<=T/\T<M:=J;have S:Tq (T - g*p) x s.A s.D:=a.tq;have R:=S8 n S (by omega);rw[show T - g*p+(g - KI g f bk)*p+KI g f bk*p=T by omega] at R;exact R
 exact⟨by rw[N],⟨⟨s.cr,A',s.D,J',s.c+2,U,a.ge.px y,P.1,P.2,⟨a.bc.1,by have:=a.bc.2;omega⟩,oM,I⟩,h.px.tr (y.mono dC)⟩,Kp.px y dC dC⟩
def Lh.fin{o:Prop}(h:Lh W l m d dp li c T o w):Cq 56 #[pq l 0] w fun e w'=>e=rU/\M9 W l m d dp li c T o w'/\Kp W.heap.size w w':=by
 have⟨n,A',D,J,c',z,s,h3,h4,A,C,g⟩:=h.ex;apply(qw z).mono;rintro e w' ⟨rfl,⟨r,k1,E,x⟩,j⟩;have a:∀i b v,r i=some (b,v)->A' i=some (b,v):=fun i b v f=>by
  rcases k1 i with e|e
  .rw[e] at f;cases f
  .rw[<-e];exact f
 have⟨G,t1,t2⟩:=Sc g.CL fun k=>(k1 k).symm;have H:o->r=A':=fun q=>funext fun i=>E i ((g.cd q).1 i);refine⟨rfl,⟨⟨n,r,c',G,⟨x,s.px j,fun i b v f=>(h3 i b v (a i b v f)).px j dC lR,?_,A,⟨t1,aBV t2 g.lt,fun q=>⟨fun _=>id,fun i b v f=>(g.cd q).2 i b v (a i b v f)⟩⟩⟩,C,t2,fun q=>?_⟩,h.px.tr (j.mono dC)⟩,Kp.px j dC dC⟩
 .obtain⟨t,B,y,F⟩:=h4;refine⟨t,B,fun k u=>y k fun e=>u ?_,F⟩;rcases k1 k with p|p
  .exact p
  .rw[p,e]
 .rw[H q] at t1;exact R3 t1 g.CL
def Qg{Q:Prop}(h:RP W l m d cr A dp li c T Q)(a9:aB.b1<=W.heap.size)(hc:c<380000000000)(o:Od)(hv:o.val<M)(a4:Q->o.dst≠0):
  Cq 33 #[pq l 0,.agg o.cs] W fun e w'=>(∃y:Int,y≠0/\e=.rt (.tuple #[.agg (fM false 0 0 ⟨none,0,0⟩ ⟨#[]⟩),.iface 90 (.agg #[vI y])])/\Bw W w')\/
   ∃(r:RO) (lv:SV),e=.rt (.tuple #[.agg (fM r.cB r.k r.id lv r.s),.nilIface])/\Ok A o/\M9 W l m d dp li c T Q w'/\(r.cB=false->lv.n=0):=by
 obtain⟨src,dst,nonce,val,bP,Z,data,aS⟩:=o;refine Calls.mono (Pq (X:=Ok A ⟨src,dst,nonce,val,bP,Z,data,aS⟩) (S1:=M8 W l m d cr A c src (bP.toNat*Z.toNat)) (S2:=Cv W l m d A dp li c T Q ⟨src,dst,nonce,val,bP,Z,data,aS⟩) (S4:=fun _=>Lh W l m d dp li c T Q) (S5:=fun _=>M9 W l m d dp li c T Q)
  h.ge.low (fun n=>let⟨g,p,x,u,h3,h4⟩:=n.nat;⟨g,p,x,u,oM,oM⟩)
  (fun w f=>te (h.below f).lf _ hv) (fun n w f=>?_) (fun w w' x f=>⟨let⟨b,v,k1,j⟩:=x.ex;⟨b,v,k1,j.below f⟩,x.px.tr (Px.aF f _)⟩) (fun n w mc x a7 K=>?_) (fun mc t v r w w' x f=>x.below f) (fun w mc t v r u=>?_) (fun w mc t v r u=>?_) (fun w mc t v r u=>?_) (fun w mc t v r u=>u.pad hc ?_ hv) (fun w r h4=>h4.fin) (fun r w w' h4 z f=>?_) (fun r w w' h5 z f=>?_)) fun e w' k=>k.imp (fun⟨y,a,b,c,_⟩=>⟨y,a,b,c⟩) id
 ·
  refine(xj (h.below f).lf src _ ?_ sI).mono ?_
  .have:=n.cn;have C:(gt A src).cn<M:=by
    obtain⟨L,dl,hL,rfl,_⟩:=h.lf;unfold gt;cases hi:am L src with
    |none=>show 0<M;decide
    |some bv=>
     have⟨q,hq,_,_,e⟩:=fR (b:=bv.1) (v:=bv.2) hi;show bv.2.cn<M;rw[<-e];exact hL.cn q hq
   simp only at this;omega
  .rintro e w' ⟨rfl,⟨b,v,J',V,hl⟩,z⟩;have I:=n.has;rcases V with⟨k1,rfl⟩| ⟨k1,_⟩
   .exact⟨rfl,⟨⟨b,v,k1,hl⟩,(Px.aF f _).tr z⟩,Kp.px z dC dC⟩
   .simp only at I;rw[k1] at I;cases I
 ·
  have⟨b,v,X,a6⟩:=x.mi h (by have:=n.cn;simp only at this;omega) a7 K;have a0:Ir src:=h.sup.ir (by rw[X];simp);have⟨g,p,E,F,Y,ac⟩:=n.nat;have C:=n.cn;have U:=n.ok;have B:=n.bP;simp only at E F C B;subst E F;obtain⟨_,_,_,_,q4,q5,q6,_⟩:=U;simp only at q4 q5 q6;have a5:(gt A src).cn=v.cn:=by unfold gt;rw[X];rfl
  have ad:v.cn<M:=by obtain⟨L,dl,hL,rfl,_⟩:=h.lf;have⟨q,hq,_,_,e⟩:=fR X;rw[<-e];exact hL.cn q hq
  rw[a5] at C;refine(Ct a6 (aAw a9 x.px.size) src dst nonce val g (p:Int) data aS a0 ⟨q5,q6⟩ hv oM Y oM (by show c+1<385000000000;omega) rfl ?_ a4).mono ?_
  .show val<=(gt (up A src (some (b,{v with cn:=(v.cn+M - g*p) % M}))) src).cn;unfold gt;rw[dN];show val<=(v.cn+M - g*p) % M;have aa:g*p+val<=v.cn:=C;have e:v.cn+M - g*p=(v.cn - g*p)+M:=oM
   rw[e,Nat.add_mod_right,aBS oM];omega
  .rintro e w' ⟨t,v',rfl,hB⟩;have a8:Px TT w w':=let⟨_,_,_,_,_,_,_,_,_,_,_,z,_⟩:=hB;z
   have⟨r,hM⟩:=Cy (W:=W) (cr:=cr) (c:=c) (o:=⟨src,dst,nonce,val,(g:Int),(p:Int),data,aS⟩) n h.tq rfl x.px hB;exact⟨t,v',r,rfl,hM,Kp.px a8 dC dC⟩
 ·
  have⟨s,K,R,P,N,gl,H,B,O,hk⟩:=u.ex;rcases P with⟨rfl,⟨g2,tx,rfl,E⟩,F,S⟩| ⟨rfl,⟨g2,id,rfl,E⟩,F,S⟩| ⟨rfl,E,F,S⟩
  .rw[E,F,S];exact(Ia K oM g2 tx).mono fun e w' ⟨lv,k1,j⟩=>⟨lv,k1,j,fun hf=>by cases hf⟩
  .rw[E,F,S];exact(Ib K oM g2 id).mono fun e w' ⟨lv,k1,j⟩=>⟨lv,k1,j,fun hf=>by cases hf⟩
  .rw[E,F,S];exact(ic v mc w).mono fun e w' ⟨k1,j⟩=>⟨⟨none,0,0⟩,k1,j,fun _=>rfl⟩
 .have⟨s,K,R,P,N,gl,H,B,O,hk⟩:=u.ex;have⟨fn,k1,j,k3⟩:=O.ex;rw[H];exact⟨fn,v,k1,j,k3 w (Px.refl _ _)⟩
 .have⟨s,K,R,P,N,gl,H,B,O,hk⟩:=u.ex;have⟨lg,a3,_⟩:=K.mc;rw[N];exact ia a3
 .have I:=u.ok.has;refine h.sup.ir (i:=src) fun e=>?_;simp only at I;rw[e] at I;cases I
 .exact⟨let⟨G,A',D,J,c',k1,j,k3,k4⟩:=h4.ex;⟨G,A',D,J,c',k1.XV z dC,j.px z,fun i b v hi=>(k3 i b v hi).px z dC lR,k4⟩,h4.px.HI f⟩
 .exact⟨let⟨G,A',c',T',k1,j⟩:=h5.ex;⟨G,A',c',T',k1.px z dC dC,j⟩,h5.px.HI f⟩
structure Plain (a:Ac) (b:Nat) (n:Int):Prop where
 cn:a.cn=b
 nonce:a.nonce=n
 code:a.code=⟨#[]⟩
 sl:a.sl=[]
def Kn(l m:Nat)(dm:Dm)(cr:Int)(p1 p2 a:Nat)(b:Int)(d:Nat)(c:Nat)(w:WR):Prop:=
 ∃J a1 a2,LG w l m dm cr [(1,p1,a1),(2,p2,a2)] J/\Plain a1 a b/\Plain a2 d 0/\J.length<c
def ud(l m:Nat)(dm:Dm)(cr:Int)(p1 p2:Nat)(w:WR):Prop:=
 ∃J a1 a2 p3 a,LG w l m dm cr [(1,p1,a1),(2,p2,a2),(3,p3,a)] J/\Plain a1 8993 1/\Plain a2 7 0/\Plain a 21000 0
def sU(h:p1≠p2):fG [(i,p1,a1),(j,p2,a2)] p1 a=[(i,p1,a),(j,p2,a2)]:=by simp[fG,Ne.symm h]
def ig(h:p1≠p2):fG [(i,p1,a1),(j,p2,a2)] p2 a=[(i,p1,a1),(j,p2,a)]:=by simp[fG,h]
def Kn.below{a:Nat}{b:Int}{d c:Nat}(h:Kn l m dm cr p1 p2 a b d c w)(g:Bw w w'):Kn l m dm cr p1 p2 a b d c w':=
 let⟨J,a1,a2,f,e⟩:=h;⟨J,a1,a2,f.below g,e⟩
def E9:RO:=⟨true,⟨#[]⟩,4000,0,21000,0⟩
structure yf (W:WR) (l m:Nat) (dm:Dm) (cr:Int) (p1 p2 mc:Nat) (t:Fh) (v:vZ) (r:RO) (w:WR):Prop where
 kn:Kn l m dm cr p1 p2 4993 1 7 50 w
 mc:w.heap[mc]?=ob (aZ l ⟨none,0,0⟩ 0 0) 165
 pr:aU [l,p1,p2,m] [262] W w
 how:t=174/\v=.agg #[.int .i64 4000,.string ⟨#[]⟩]
 r:r=E9
def Na:(30000+M - 25000*1) % M=5000:=dC
def Nb:(5000+M - 7) % M=4993:=dC
def Nf:(0+7) % M=7:=dC
def Ng:(4993+4000*1) % M=8993:=dC
def aU.HI{B:K4}{T:List Fh}(h:aU B T W w)(a:Below W.heap.size w w'):aU B T W w':=⟨a.os.tr h.os,a.tape.tr h.tape,a.output.tr h.output,aAw h.size a.size,fun k b c=>by rw[a.block k b];exact h.block k b c⟩
def WL(h:Kn l m ⟨dmb,[]⟩ cr p1 p2 30000 0 0 10 W)(s:p1≠p2)(S:aB.b0<=W.heap.size):
  Cq 33 #[pq l 0,.agg (Od.cs ⟨1,2,0,7,((25000:Nat):Int),((1:Nat):Int),⟨#[]⟩,3⟩)] W fun e w'=>∃lv:SV,e=.rt (.tuple #[.agg (fM true 21000 0 lv ⟨#[]⟩),.nilIface])/\ud l m ⟨dmb,[]⟩ cr p1 p2 w'/\aU [l,p1,p2,m,dmb] [262] W w':=by
 have h0:=h;obtain⟨J0,a1,a2,E,o,P,a6⟩:=h;have a5:=E.cell0.1;have a4:p1<W.heap.size:=aG (E.acc (1,p1,a1) sI);have aa:p2<W.heap.size:=aG (E.acc (2,p2,a2) sI);have a9:=E.map.lt;have a7:dmb<W.heap.size:=E.iZ.lt;have O:∀(r:RO) (w w':WR),(r=E9/\ud l m ⟨dmb,[]⟩ cr p1 p2 w/\aU [l,p1,p2,m,dmb] [262] W w)->Px [34] w w'->Below W.heap.size w w'->(r=E9/\ud l m ⟨dmb,[]⟩ cr p1 p2 w'/\aU [l,p1,p2,m,dmb] [262] W w'):=fun r w w' ⟨hr,⟨J',x,C,p3,z,u,hQ⟩,F⟩ G a=>⟨hr,⟨J',x,C,p3,z,u.XV G dC,hQ⟩,F.HI a⟩;refine Calls.mono (Pq (X:=True) (Z:=False)
  (S1:=fun w=>Kn l m ⟨dmb,[]⟩ cr p1 p2 5000 0 0 20 w/\aU [l,p1,p2,m] [262] W w)
  (S2:=yf W l m ⟨dmb,[]⟩ cr p1 p2)
  (S4:=fun r w=>r=E9/\ud l m ⟨dmb,[]⟩ cr p1 p2 w/\aU [l,p1,p2,m,dmb] [262] W w)
  (S5:=fun r w=>r=E9/\ud l m ⟨dmb,[]⟩ cr p1 p2 w/\aU [l,p1,p2,m,dmb] [262] W w)
  S (fun _=>⟨25000,1,rfl,rfl,dC,dC⟩) (fun w a=>?_) (fun _ w a=>?_) (fun w w' j a=>⟨j.1.below a,j.2.tr (.aF a _ _)⟩) (fun _ w mc j X hm=>?_) (fun mc t v r w w' j a=>⟨j.kn.below a,bk a j.mc,j.pr.tr (.aF a _ _),j.how,j.r⟩) (fun w mc t v r f=>?_) (fun w mc t v r f=>?_) (fun w mc t v r f=>?_) (fun w mc t v r f=>?_) (fun w r h4=>?_) (fun r w w' h4 G a=>O r w w' h4 G a) (fun r w w' h5 G a=>O r w w' h5 G a)) ?_
 rotate_right
 .rintro e w' (⟨_,_,_,_,hz⟩| ⟨r,lv,rfl,_,⟨rfl,h3,h4⟩,_⟩)
  .exact hz.elim
  .exact⟨lv,rfl,h3,h4⟩
 .refine Calls.mono (te (A:=am [(1,p1,a1),(2,p2,a2)]) (D:=fun _=>False) ⟨_,[],E.below a,rfl,fun i=>⟨fun h=>(by cases h),fun h=>h.elim⟩,fun q hq p G=>(by simp at hq;rcases hq with rfl|rfl<;>simp[o.sl,P.sl] at G)⟩ ⟨1,2,0,7,((25000:Nat):Int),((1:Nat):Int),⟨#[]⟩,3⟩ dC) fun e w' k=>⟨k.1.elim (fun q=>(q.2.out ?_).elim) (fun q=>.inr ⟨q.1,trivial⟩),k.2⟩;exact⟨by simp[Od.ok,ByteArray.size],by decide,by simp[am],by simp[gt,am,av,o.nonce],by decide,by simp[Od.at,AP],by simp[gt,am,av,o.cn]⟩
 .apply(af (E.below a) (q:=(1,p1,a1)) sI (25000*1) dC oM).mono;rintro e w' ⟨rfl,j,f⟩;refine⟨rfl,⟨?_,(aU.aF a _ _).tr (f.mono (fun k _ d=>by simp at d;simp;omega) (fun t g=>g))⟩,Kp.jA f (fun k d=>by simp at d;omega) dC dC⟩;rw[sU s] at j;refine⟨_,_,_,j,⟨?_,o.nonce,o.code,o.sl⟩,P,by simp;omega⟩;show(a1.cn+M - 25000*1) % M=5000;rw[o.cn];exact Na
 .obtain⟨⟨J1,x,C,D,b,n,Z⟩,Q⟩:=j;refine tj D hm (q:=(1,p1,x)) sI 2 0 7 25000 1 3 dC dC dC (by show 0<=x.nonce;rw[b.nonce];decide) (by show x.nonce<_;rw[b.nonce];decide) oM
   (Φ:=fun e w'=>∃t v r,e=.rt (.iface t v)/\yf W l m ⟨dmb,[]⟩ cr p1 p2 mc t v r w'/\Kp W.heap.size w w')
   (fun e w' ⟨t,v,r,he,_⟩=>⟨t,v,he⟩) (fun w2 data L T B=>?_)
  rw[sU s] at L;obtain⟨z,N⟩:∃z:Ac,z={x with nonce:=x.nonce+1}:=⟨_,rfl⟩;have y:Plain z 5000 1:=by rw[N];exact⟨b.cn,by show x.nonce+1=1;rw[b.nonce];rfl,b.code,b.sl⟩
  have J:LG w2 l m ⟨dmb,[]⟩ cr [(1,p1,z),(2,p2,C)] (J1++[uG p1 x.nonce]):=by rw[N];exact L
  have a3:=PC J T (q:=(1,p1,z)) (p:=(2,p2,C)) sI sI s (by show C.code.size=0;rw[n.code];rfl) 7 dC (by show 7<=z.cn;rw[y.cn];decide) (((25000:Nat):Int) - 21000) data dC dC sQ0;apply a3.mono;rintro e w' ⟨t,v,rfl,Y,u,a0,H⟩;simp only[Value.iface.injEq] at Y;rw[sU s,ig s] at u;have U:aU [mc,l,p1,p2,m] [262] W w':=((Q.tr (B.mono (fun k _ d=>by simp at d;simp;omega) (fun t g=>g))).mono (fun k _ d=>by simp at d;simp;omega) (fun t g=>g)).tr (H.mono (fun k _ d=>by simp at d;simp;omega) (fun t g=>g));have K:aU [l,p1,p2,mc] [262] w w':=(B.mono (fun k _ d=>by simp at d;simp;omega) (fun t g=>g)).tr H;refine⟨t,v,E9,rfl,⟨⟨_,_,_,u,⟨?_,y.nonce,y.code,y.sl⟩,⟨?_,n.nonce,n.code,n.sl⟩,by simp;omega⟩,a0,U.drop X,⟨Y.1,Y.2⟩,rfl⟩,K.size,fun k c t d g R=>K.obj R (by rcases g with rfl|rfl<;>simp[qB]) ?_⟩
  .show(z.cn+M - 7) % M=4993;rw[y.cn];exact Nb
  .show(C.cn+7) % M=7;rw[n.cn];exact Nf
  .have a8:k≠mc:=fun e=>by subst e;rw[hm] at R;simp only[aAF,Obj.cells.injEq] at R;rcases g with rfl|rfl<;>exact absurd R.2.1 dC
   simp only[aAx,aAC,or_false,not_or];omega
 .obtain⟨rfl,rfl⟩:=f.how;refine(WC (N:=0) (xs:=[]) f.mc _ _ (fun V a=>(Cm (bk a f.mc)).mono fun e w' ⟨j,h3⟩=>⟨⟨none,0,0⟩,j,by rw[h3];exact Below.refl _ _,pQ.none _ _⟩)).mono ?_;rintro e w' ⟨lv,rfl,a,hl⟩;exact⟨lv,by rw[f.r];rfl,a,fun e=>by rw[f.r] at e;cases e⟩
 .obtain⟨rfl,rfl⟩:=f.how;refine⟨366,_,uc _,Yj,(JB _ _ w).mono ?_⟩;rintro e w' ⟨rfl,a⟩;exact⟨by rw[f.r];rfl,a⟩
 .exact(ia f.mc).mono fun e w' ⟨j,h3⟩=>⟨by rw[j,f.r];rfl,h3⟩
 .have⟨J1,x,C,D,b,n,Z⟩:=f.kn;rw[f.r];apply(WI D (q:=(1,p1,x)) sI 3 sI 2 0 7 25000 1 4000 21000 dC dC dC oM).mono;rintro e w' ⟨rfl,⟨pa,ms,J',ac,A⟩,I⟩;refine⟨rfl,⟨rfl,?_,(f.pr.mono (fun k _ d=>by simp at d;simp;omega) (fun t g=>g)).tr (I.mono (fun k _ d=>by simp at d;simp;omega) (fun t g=>g))⟩,Kp.jA I (fun k d=>by simp at d;omega) dC dC⟩;rw[sU s] at A;refine⟨_,_,_,_,_,A,⟨?_,b.nonce,b.code,b.sl⟩,n,⟨rfl,rfl,rfl,rfl⟩⟩;show(x.cn+4000*1) % M=8993;rw[b.cn];exact Ng
 .obtain⟨hr,⟨J',x,C,p3,z,u,hQ⟩,F⟩:=h4;apply(JF u).mono;rintro e w' ⟨rfl,A,f⟩;exact⟨rfl,⟨hr,⟨_,_,_,_,_,A,hQ⟩,F.tr (f.mono (fun k _ d=>by simp at d;simp;omega) (fun t g=>by cases g))⟩,Kp.jA f (fun k d=>by simp at d;omega) sI sI⟩
def BQ(q:Int×Nat×Ac):bF:=⟨q.1,q.2.2.cn,q.2.2.nonce,q.2.2.code,q.2.2.sl⟩
def LG.ledger(h:LG W l m dm cr L J)(d:∀q∈L,0<=q.1/\q.1<=4294967295)(f:∀q∈L,q.2.2.sl.length<400000000000)(g:L.length<400000000000):zO W l (L.map fun q=>(BQ q,q.2.1)):=by
 refine⟨⟨m,h.cell0.2,?_⟩,h.cell0.1,fun z b=>?_,?_,fun z b=>?_,by simpa using g⟩
 .have e:BP (L.map fun q=>(BQ q,q.2.1))=ids L:=by unfold BP ids;rw[aAS];rfl
  rw[e];exact h.map
 .obtain⟨q,a,rfl⟩:=aAJ.1 b;refine⟨⟨q.2.2.mark,q.2.2.ms,fun j v c=>?_,h.slot q a⟩,h.key q a,h.IX q a,f q a⟩;rw[aAM,aJ (h.acc q a) j];exact(aAY (xs:=zM (BQ q) q.2.2.mark q.2.2.ms)).tr c
 .rw[aAS];exact h.nd
 .obtain⟨q,a,rfl⟩:=aAJ.1 b;exact d q a
def Ik(a c e:Nat)(b d f:Int)(g c2 c3:Lp):told [⟨1,a,b,g,[]⟩,⟨2,c,d,c2,[]⟩,⟨3,e,f,c3,[]⟩]=[⟨1,a,b,g,[]⟩,⟨2,c,d,c2,[]⟩,⟨3,e,f,c3,[]⟩]:=by simp[told,sK,XW,JL]
def iu(h:ud l m ⟨dmb,[]⟩ cr p1 p2 W)(u:W.cA pw 0=some (pq l 0)):
  Cq 17 #[pq pw 0] W fun e w'=>∃g cap b,e=.rt (.sl (some (ad g 0)) 3 cap)/\Bw W w'/\w'.heap[g]?=ob b 52/\
   (∀i,i<4->b[1+i]?=some (vL 8993 i)/\b[9+i]?=some (vL 7 i)/\b[17+i]?=some (vL 21000 i))/\b[5]?=some (vI 1)/\3<=cap:=by
 obtain⟨J,a1,a2,p3,C,I,d,f,c⟩:=h;have z:=I.ledger (fun q r=>by simp at r;rcases r with rfl|rfl|rfl<;>simp) (fun q r=>by simp at r;rcases r with rfl|rfl|rfl<;>simp[d.sl,f.sl,c.sl]) sI;apply(zP _ pw l W u z).mono;rintro e w' ⟨v,B,rfl,G,L,j⟩;have N:([(1,p1,a1),(2,p2,a2),(3,p3,C)].map fun q:Int×Nat×Ac=>(BQ q,q.2.1)).map (·.1)=[⟨1,8993,1,a1.code,[]⟩,⟨2,7,0,a2.code,[]⟩,⟨3,21000,0,C.code,[]⟩]:=by simp[BQ,d.cn,d.nonce,d.sl,f.cn,f.nonce,f.sl,c.cn,c.nonce,c.sl]
 rw[N,Ik] at j;obtain⟨o,k,p,rfl⟩:∃o k p,B=[o,k,p]:=by
  have n:=congrArg List.length j;simp at n;match B,n with
  | [o,k,p],_=>exact⟨o,k,p,rfl⟩
 simp only[aBl,aCC,aBX,and_true] at j;obtain⟨x,A,w⟩:=j;rcases L.own.2 with⟨_,t⟩| ⟨g,cap,b,s,_,H,y,_,M,F⟩
 .simp at t
 .simp only[Value.slice.injEq] at s;obtain⟨s,t,h3⟩:=s;have a:∀i v,i<24->(eJ [o,k,p])[i]?=some v->b[i]?=some v:=fun i v D E=>by rw[<-F,aCg (by simpa using D),aBp] at E;exact E
  have K:eJ [o,k,p]=aV o.1 o.2++(aV k.1 k.2++(aV p.1 p.2++[])):=rfl;rw[K,x,A,w] at a;simp only[aV] at a;refine⟨g,cap,b,?_,G,H,fun i D=>?_,a 5 _ oM rfl,by simpa using y⟩
  .rw[s,t,h3];rfl
  .rcases(by omega:i=0\/i=1\/i=2\/i=3) with rfl|rfl|rfl|rfl<;>exact⟨a _ _ oM rfl,a _ _ oM rfl,a _ _ oM rfl⟩
structure Tv (v:Av) (d:bF):Prop where
 cn:d.cn=v.cn
 nonce:d.nonce=v.nonce
 code:d.code=v.code
 up:Up (fun q:Nat×Nat=>(q.1:Int)) d.bE
 sl:∀k x,(k,x)∈d.bE ↔ v.sl k=x/\x≠0
structure Td (A:AM) (T:List bF):Prop where
 od:Up (fun d:bF=>d.id) T
 of:∀d∈T,∃b v,A d.id=some (b,v)/\Tv v d
 all:∀i,A i≠none->∃d∈T,d.id=i
theorem zQ:∀{sl:List (Nat×Nat)},(sl.map (·.1)).Nodup->(∀p∈sl,p.2≠0)->∀k x,(k,x)∈sl ↔ iV sl k=x/\x≠0
 | [],_,_,k,x=>by simp[iV];omega
 |p::l,g,b,k,x=>by
  have a:=aBt.1 g;have d:=zQ a.2 (fun q c=>b q (aAR _ c)) k x;unfold iV;rw[aAx];by_cases e:k=p.1
  .rw[if_pos e];constructor
   .rintro(h|h)
    .exact⟨by rw[<-h],by have:=b p aAQ;rw[<-h] at this;exact this⟩
    .exact absurd (by show p.1∈_;rw[<-e];exact aAI (f:=fun q:Nat×Nat=>q.1) h) a.1
   .rintro⟨f,_⟩;left;rw[e,<-f]
  .rw[if_neg e,<-d];constructor
   .rintro(h|h)
    .exact absurd (by rw[<-h]) e
    .exact h
   .exact .inr
def LG.td(h:LG W l m dm cr L J)(n:∀q∈L,∀p∈q.2.2.sl,p.2≠0):Td (am L) (told (L.map BQ)):=by
 have b:(L.map BQ).map (·.id)=L.map (·.1):=by rw[aAS];rfl
 refine⟨RR (by rw[b];exact h.nd),fun d j=>?_,fun i o=>?_⟩
 .obtain⟨r,c,rfl⟩:=aAJ.1 ((mF _).mem_iff.1 j);obtain⟨q,a,rfl⟩:=aAJ.1 c;refine⟨q.2.1,av q.2.2,yT h.nd a,⟨rfl,rfl,rfl,GF _ _ ?_,fun k x=>?_⟩⟩
  .have:=h.IX q a;show(q.2.2.sl.map fun p=>(p.1:Int)).Nodup;have e:(q.2.2.sl.map fun p=>(p.1:Int))=(q.2.2.sl.map (·.1)).map (fun k:Nat=>(k:Int)):=by rw[aAS];rfl
   rw[e];exact aBw.2 (aCH (fun h e=>h (Int.ofNat.inj e)) this)
  .show(k,x)∈XW (fun p:Nat×Nat=>(p.1:Int)) q.2.2.sl ↔ _;rw[(jY _ _).mem_iff];exact zQ (h.IX q a) (n q a) k x
 .cases f:am L i with
  |none=>exact absurd f o
  |some g=>
   have⟨q,a,e,_⟩:=fR (b:=g.1) (v:=g.2) f;exact⟨sK (BQ q),(mF _).mem_iff.2 (aAI (aAI a)),e⟩
end
section
theorem pJ{α:Type}[DecidableEq α]:∀{l ks:List α},l.Nodup->(∀a∈l,a∈ks)->l.length<=ks.length
 | [],_,_,_=>Nat.zero_le _
 |a::l,ks,hn,h=>by
  have hn':=List.nodup_cons.1 hn;have ha:a∈ks:=h a List.mem_cons_self;have:=pJ (ks:=ks.erase a) hn'.2 (fun b hb=>(List.mem_erase_of_ne (show b≠a from fun e=>hn'.1 (e▸hb))).2 (h b (List.mem_cons_of_mem _ hb)));rw[List.length_erase_of_mem ha] at this;have:=List.length_pos_of_mem ha;simp only[List.length_cons];exact oM
def Tb(T:List bF):Prop:=∀d∈T,d.cn<M/\∀p∈d.bE,p.1<M/\p.2<M
variable [aB]
def Il{B:Prop}(h:RP W l m d cr A dp li c T B)(J:c<390000000000)(n:W.cell? ⟨pw,0,none⟩=some (pq l 0)):
  Cq 17 #[pq pw 0] W fun e w'=>∃v i,e=.returned (.slice v.a v.n v.c)/\Bw W w'/\dD W.heap.size w' v i/\Td A (i.map (·.1))/\Tb (i.map (·.1))/\i.length<400000000000:=by
 obtain⟨L,dl,f,rfl,_,x⟩:=h.lf;obtain⟨w,k1,F,C⟩:=h.sup;have j:∀q∈L,q.1∈w:=fun q b=>F q.1 (by rw[yT f.nd b];simp);have s:L.length<400000000000:=by have:=pJ f.nd (fun a k=>by obtain⟨q,b,rfl⟩:=aAJ.1 k;exact j q b);simp at this;exact oM
 have o:∀q∈L,q.2.2.sl.length<400000000000:=fun q b=>by
  obtain⟨y,I,D⟩:=(h.av q.1 q.2.1 (av q.2.2) (yT f.nd b)).sup;have:=pJ (f.IX q b) (ks:=y) (fun a k=>by obtain⟨p,r,rfl⟩:=aAJ.1 k;refine D p.1 ?_;have:=(zQ (f.IX q b) (x q b) p.1 p.2).1 r;show iV q.2.2.sl p.1≠0;rw[this.1];exact this.2)
  simp at this;exact oM
 have t:=f.ledger (fun q b=>C _ (j q b)) o s;refine(zP _ pw l W n t).mono ?_;rintro e w' ⟨v,i,rfl,z,E,g⟩;have G:(L.map fun q=>(BQ q,q.2.1)).map (·.1)=L.map BQ:=by rw[aAS];rfl
 rw[G] at g;refine⟨v,i,rfl,z,E,by rw[g];exact f.td x,?_,?_⟩
 .rw[g];intro a k;obtain⟨H,u,rfl⟩:=aAJ.1 ((mF _).mem_iff.1 k);obtain⟨q,b,rfl⟩:=aAJ.1 u;refine⟨f.cn q b,fun p r=>f.key q b p ?_⟩;exact(jY _ _).mem_iff.1 r
 .have:=congrArg List.length g;rw[aBB,(mF _).length_eq] at this;simp at this;exact oM
structure Rl (W:WR) (v:SV) (os:List (bF×SV)):Prop where
 n:v.n=os.length
 at':os=[]\/∃g,v.a=some ⟨g,0,none⟩/\g<W.heap.size/\nS W g 0 os
def dD.rl{v:SV}{b:List (bF×SV)}(h:dD B W v b):Rl W v b:=by
 obtain⟨n,l,m⟩:=v;have k:=zJ h.own;refine⟨k.1,?_⟩;rcases h.own.2 with⟨a,c⟩| ⟨g,cap,d,a,c,j,_⟩
 .exact .inl (aAZ c)
 .have f:=a;cases a;refine .inr ⟨g,rfl,aG j,fun i p e=>?_⟩;rw[aAM];exact RA h.own e
end
end Go.Mark
