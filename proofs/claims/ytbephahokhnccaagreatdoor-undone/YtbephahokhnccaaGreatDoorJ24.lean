import Derived.Test.YtbephahokhnccaaGreatDoorJ8
import Derived.Test.YtbephahokhnccaaGreatDoorJ23
set_option linter.all false
set_option maxRecDepth 100000
set_option maxHeartbeats 8000000
namespace Go.Mark
open Go.RowKit Go.Proofs Go.Proofs.Tryz
variable{A:AM}{a1 a2 a:Ac}{dp li:Addr}{v:Av}{data:Lp}{dm:Dm}{cr i src aS dst nonce j:Int}{L:List (Int×Nat×Ac)}{J J':K3}{T T':List bF}{l m c d b p1 p2 x mc pw c' dmb:Nat}{o:Od}{t:Fh}{W w w' W':WR}{d':bF}
section
variable [aB]
attribute [local go_sem] wd
structure RO where
 cB:Bool
 s:Lp
 left:Int
 back:Int
 k:Int
 id:Int
def Cu{a:Nat}{c c':Ff}(g:w.heap[a]?=ob c 34)(f:w'.heap[a]?=ob c' 34)(b:aU [a] [] w w')(e:aB.b0<=a):Px [34] w w':=
 b.px (fun k d _=>by rw[aAB.1 d,g,f];exact⟨by simp[kd],by simpa[kd,lw,aB.lo] using e,rfl⟩) (fun t h=>by cases h)
def Pq{z u:Int}{X Z:Prop}{S1:K6}{S2:Nat->Fh->vZ->RO->K6}{S4 S5:RO->K6}(ct:aB.b0<=W.heap.size)(a6:X->∃g p:Nat,z=(g:Int)/\u=(p:Int)/\g<100000000/\p<100000000)(hr:∀w,Bw W w->Cq 48 #[pq l 0,.agg (Od.cs ⟨src,dst,nonce,x,z,u,data,aS⟩)] w fun e w'=>(Pp e/\Z\/e=.rt (vI 0)/\Shut X)/\Bw w w')(ht:X->∀w,Bw W w->Cq 49 #[pq l 0,vI src,wd (z.toNat*u.toNat)] w fun e w'=>e=rU/\S1 w'/\Kp W.heap.size w w')(bi:Ic S1)(hb:X->∀w mc,S1 w->W.heap.size<=mc->w.heap[mc]?=ob (aZ l ⟨none,0,0⟩ 0 0) 165->Cq 52 #[pq mc 0,pq l 0,.agg (Od.cs ⟨src,dst,nonce,x,z,u,data,aS⟩)] w fun e w'=>∃t v r,e=.rt (.iface t v)/\S2 mc t v r w'/\Kp W.heap.size w w')(b2:∀mc t v r,Ic (S2 mc t v r))(bf:∀w mc t v r,S2 mc t v r w->Cq 53 #[pq mc 0,.iface t v] w fun e w'=>∃lv:SV,e=.rt (.agg (fM r.cB 0 r.id lv r.s))/\Bw w w'/\(r.cB=false->lv.n=0))(a0:∀w mc t v r,S2 mc t v r w->∃fn rv,(∀w,(Go.method 543 t v "Left").run zQ.prog w=.ok (fn,rv) w)/\(∀args w,(callFunc fn args).run zQ.prog w=.ok (.enter fn args) w)/\Cq fn #[rv] w fun e w'=>e=.rt (vI r.left)/\Bw w w')(bn:∀w mc t v r,S2 mc t v r w->Cq 55 #[pq mc 0] w fun e w'=>e=.rt (vI r.back)/\w'=w)(a8:∀w mc t v r,S2 mc t v r w->Cq 54 #[pq l 0,.agg (Od.cs ⟨src,dst,nonce,x,z,u,data,aS⟩),vI r.left,vI r.back] w fun e w'=>e=.rt (vI r.k)/\S4 r w'/\Kp W.heap.size w w')(bd:∀w r,S4 r w->Cq 56 #[pq l 0] w fun e w'=>e=rU/\S5 r w'/\Kp W.heap.size w w')(b9:∀r w w',S4 r w->Px [34] w w'->Below W.heap.size w w'->S4 r w')(a5:∀r w w',S5 r w->Px [34] w w'->Below W.heap.size w w'->S5 r w'):
  Cq 33 #[pq l 0,.agg (Od.cs ⟨src,dst,nonce,x,z,u,data,aS⟩)] W fun e w'=>(∃y:Int,y≠0/\e=.rt (.tuple #[.agg (fM false 0 0 ⟨none,0,0⟩ ⟨#[]⟩),.iface 90 (.agg #[vI y])])/\Bw W w'/\Z)\/∃(r:RO) (lv:SV),e=.rt (.tuple #[.agg (fM r.cB r.k r.id lv r.s),.nilIface])/\X/\S5 r w'/\(r.cB=false->lv.n=0):=by
 have cl:=US hr;have b4:=US ht;have bb:=US bi;have bs:=US hb;have j:=US b2;have bl:=US bf;have b8:=US a0;have bj:=US bn;have a4:=US a8;have a3:=US bd;have b3:=US b9;have bg:=US a5;clear hr ht bi hb b2 bf a0 bn a8 bd b9 a5;have M:Bw W ((W.alloc (.ce (Od.cs ⟨src,dst,nonce,x,z,u,data,aS⟩) 43)).alloc (.ce rZ 34)):=(ba).alloc sI _;have ho:((W.alloc (.ce (Od.cs ⟨src,dst,nonce,x,z,u,data,aS⟩) 43)).alloc (.ce rZ 34)).heap[W.heap.size]?=ob (Od.cs ⟨src,dst,nonce,x,z,u,data,aS⟩) 43:=aT (aM W _);have cp:((W.alloc (.ce (Od.cs ⟨src,dst,nonce,x,z,u,data,aS⟩) 43)).alloc (.ce rZ 34)).heap[W.heap.size+1]?=ob rZ 34:=by have:=aM (W.alloc (.ce (Od.cs ⟨src,dst,nonce,x,z,u,data,aS⟩) 43)) (.ce rZ 34);simpa using this
 have a:=cl.out _ M;go_enter (qz func33),ntmps33;unfold Od.cs at a⊢;go_wp2_with fail;apply a.mono;rintro e w1 ⟨he,k⟩;clear a;have S:=M.tr (k.mono M.size);have cd:=bk k ho;have a:=bk k cp;rcases he with⟨⟨y,hy,rfl⟩,hz⟩| ⟨rfl,b7⟩
 .have cy:=aG a;have P:=bq a 0;have z0:=aQ a 0;have J:=bq a 1;have z1:=aQ a 1;have T:=bq a 2;have z2:=aQ a 2;have G:=bq a 3;have z3:=aQ a 3;have R:=bq a 4;have z4:=aQ a 4;have c:=aO (i:=4) (v:=.string ⟨#[]⟩) (aO (i:=3) (v:=.sl none 0 0) (aO (i:=2) (v:=vI 0) (aO (i:=1) (v:=vI 0) (aO (i:=0) (v:=.bool false) (a)))));have o:=(((((S).setCell (p:=(ad (W.heap.size+1) 0)) (by exact aBx _) (.bool false)).setCell (p:=(ad (W.heap.size+1) 1)) (by exact aBx _) (vI 0)).setCell (p:=(ad (W.heap.size+1) 2)) (by exact aBx _) (vI 0)).setCell (p:=(ad (W.heap.size+1) 3)) (by exact aBx _) (.sl none 0 0)).setCell (p:=(ad (W.heap.size+1) 4)) (by exact aBx _) (.string ⟨#[]⟩);go_wp2;generalize((((((w1.setCell ⟨W.heap.size+1,0,none⟩ (.bool false)).setCell ⟨W.heap.size+1,1,none⟩ (.int .i64 0)).setCell ⟨W.heap.size+1,2,none⟩ (.int .i64 0)).setCell ⟨W.heap.size+1,3,none⟩ (.slice none 0 0)).setCell ⟨W.heap.size+1,4,none⟩ (.string ⟨#[]⟩)))=VC at c o⊢;clear P J T G R;have P:=bq c 0;have J:=bq c 1;have T:=bq c 2;have G:=bq c 3;have R:=bq c 4;simp[bodyPost,results,results33,go_sem,P,J,T,G,R];exact⟨y,hy,⟨rfl,rfl⟩,o,hz⟩
 have hX:X:=b7.out;clear b7;obtain⟨g,p,rfl,rfl,hg,hp⟩:=a6 hX;simp only[aBM] at b4;clear a6;go_wp2_with fail;refine rq (fun V=>V.heap[W.heap.size]?=ob (Od.cs ⟨src,dst,nonce,x,(g:Int),(p:Int),data,aS⟩) 43/\V.heap[W.heap.size+1]?=ob rZ 34) ⟨cd,a⟩ fun b=>?_;refine t2 0 1 b ?_;refine tV 2 (fun _ i=>bq i.1 0) b ?_;refine t1 3 b ?_;refine tV 4 (fun _ i=>bq i.1 7) b ?_;refine t1 5 b ?_;refine tV 6 (fun _ i=>bq i.1 8) b ?_;refine rA 7 fun K n=>?_;go_simp;apply(jH g p hg hp _).mono;rintro e V1 ⟨rfl,k⟩;go_wp2_with fail;refine n.out _ _ ⟨bk k b.1,bk k b.2⟩ fun b=>?_;have Y:Bw W V1:=S.tr (((Below.refl _ w1).drew.tr k).mono S.size);refine rA 8 fun K n=>?_;go_simp;apply(b4.out hX V1 Y).mono;rintro e V2 ⟨rfl,h1,a7⟩;have ca:=US h1;clear h1;go_wp2_with fail;refine n.out _ _ ⟨a7.2 _ _ _ lR (.inl rfl) b.1,a7.2 _ _ _ oM (.inr rfl) b.2⟩ fun b=>?_;refine dn ?_;have cs:=aG b.2;have bh:=Cl l V2;go_wp2_with fail;apply bh.mono;rintro e V3 ⟨rfl,O,N⟩;clear bh;have br:=bb.out _ _ ca.out N;generalize cq:V2.heap.size=mc at O⊢;have I:=bs.out hX V3 mc br oM O;have d:=bk N b.1;have bz:=bk N b.2;clear Y O;have cw:=aG d;have c0:=bq d 0;have c1:=bq d 1;have c2:=bq d 2;have c3:=bq d 3;have c4:=bq d 4;have c5:=bq d 5;have c6:=bq d 6;have c7:=bq d 7;have c8:=bq d 8;have c9:=bq d 9;have XU:=bq d 10;unfold Od.cs at I;go_wp2_with fail;apply I.mono;rintro e V4 ⟨t,v,r,rfl,h2,bm⟩;have bo:=US h2;clear I h2 c0 c1 c2 c3 c4 c5 c6 c7 c8 c9 XU;have cm:=bm.2 _ _ _ lR (.inl rfl) d;have ch:=bm.2 _ _ _ oM (.inr rfl) bz;have D:=bl.out V4 mc t v r bo.out;go_wp2_with fail;apply D.mono;rintro e H ⟨lv,rfl,o,cn⟩;clear D;have bt:=bk o cm;have c:=bk o ch;have bc:=j.out mc t v r _ _ bo.out o;have L:Bw H (H.alloc (.ce (fM r.cB 0 r.id lv r.s) 34)):=ba;have B:=aM H (.ce (fM r.cB 0 r.id lv r.s) 34);have b0:=bk L bt;have aa:=bk L c;have ac:=j.out mc t v r _ _ bc L;have s:=US ac;clear ac bc;unfold fM;go_wp2_with fail;change Code.wp _ _ _ _ (H.alloc (.ce (fM r.cB 0 r.id lv r.s) 34));generalize H.alloc (.cells (fM r.cB 0 r.id lv r.s) 34)=V6 at B b0 aa s⊢;have al:W.heap.size+1<H.heap.size:=aG c;generalize H.heap.size=E at B al⊢;have⟨fn,rv,cc,bv,ar⟩:=b8.out V6.drew mc t v r (j.out mc t v r _ _ s.out bR.drew);refine rq (fun V=>V.heap[W.heap.size]?=ob (Od.cs ⟨src,dst,nonce,x,(g:Int),(p:Int),data,aS⟩) 43/\V.heap[W.heap.size+1]?=ob rZ 34) ⟨b0,aa⟩ fun b=>?_;refine t1 0 b ?_;refine tD 1 38 (.agg (Od.cs ⟨src,dst,nonce,x,(g:Int),(p:Int),data,aS⟩)) (fun V i=>?_) b ?_
 .have k0:=bq i.1 0;have k1:=bq i.1 1;have k2:=bq i.1 2;have k3:=bq i.1 3;have k4:=bq i.1 4;have k5:=bq i.1 5;have k6:=bq i.1 6;have k7:=bq i.1 7;have k8:=bq i.1 8;have k9:=bq i.1 9;have d0:=bq i.1 10;clear i b;unfold Od.cs;go_simp
 refine t2 2 4 b ?_;refine rA 3 fun K n=>?_;go_simp;apply ar.mono;rintro e V7 ⟨rfl,C⟩;clear ar;go_wp2_with fail;refine n.out _ _ ⟨bk C b.1,bk C b.2⟩ fun b=>?_;clear n K cc bv;have F:Shut (S2 mc t v r V7):=j.out mc t v r _ _ (j.out mc t v r _ _ s.out bR.drew) C;have b6:=(C.block E (aG B)).tr B;refine rA 5 fun K n=>?_;go_simp;apply(bj.out V7 mc t v r F.out).mono;rintro e V8 ⟨rfl,bw⟩;subst bw;go_wp2_with fail;refine n.out _ _ b fun b=>?_;refine rA 6 fun K n=>?_;go_simp;apply(a4.out _ mc t v r F.out).mono;rintro e V9 ⟨rfl,h4,Q⟩;have bx:=US h4;clear h4;go_wp2_with fail;refine n.out _ _ ⟨Q.2 _ _ _ lR (.inl rfl) b.1,Q.2 _ _ _ oM (.inr rfl) b.2⟩ fun b=>?_;have m:=Q.2 _ _ _ oM (.inr rfl) b6;have e1:=bq m 1;have z1:=aQ m 1;refine rA 7 fun K n=>?_;go_simp;refine n.out _ _ b fun b=>?_;refine rA 8 fun K n=>?_;go_simp;refine n.out _ _ ⟨aD b.1 oM,aD b.2 oM⟩ fun b=>?_;refine dn ?_;have q:(V9.setCell ⟨E,1,none⟩ (vI r.k)).heap[E]?=ob (fM r.cB r.k r.id lv r.s) 34:=aO (i:=1) m;have a9:S4 r (V9.setCell ⟨E,1,none⟩ (vI r.k)):=b3.out _ _ _ bx.out (Cu m q (aU.setCell V9 E 1 _) oM) ((Below.refl W.heap.size V9).setCell (p:=(ad E 1)) (by show W.heap.size<=E;omega) _);have A:=a3.out _ _ a9;generalize V9.setCell ⟨E,1,none⟩ (.int .i64 r.k)=VA at b q A⊢;clear e1 z1 a9;go_wp2_with fail;apply A.mono;rintro e U ⟨rfl,h5,b1⟩;have cb:=US h5;clear h5 A;have h:=b1.2 _ _ _ oM (.inr rfl) q;have f:=b1.2 _ _ _ oM (.inr rfl) b.2;have cv:=aG h;have e0:=bq h 0;have P:=bq f 0;have z0:=aQ f 0;have e1:=bq h 1;have J:=bq f 1;have z1:=aQ f 1;have e2:=bq h 2;have T:=bq f 2;have z2:=aQ f 2;have e3:=bq h 3;have G:=bq f 3;have z3:=aQ f 3;have e4:=bq h 4;have R:=bq f 4;have z4:=aQ f 4;have ck:aU [W.heap.size+1] [] U (((((U.setCell ⟨W.heap.size+1,0,none⟩ (.bool r.cB)).setCell ⟨W.heap.size+1,1,none⟩ (vI r.k)).setCell ⟨W.heap.size+1,2,none⟩ (vI r.id)).setCell ⟨W.heap.size+1,3,none⟩ (.sl lv.a lv.n lv.c)).setCell ⟨W.heap.size+1,4,none⟩ (.string r.s)):=((((aU.setCell U (W.heap.size+1) 0 _).tr (aU.setCell _ (W.heap.size+1) 1 _)).tr (aU.setCell _ (W.heap.size+1) 2 _)).tr (aU.setCell _ (W.heap.size+1) 3 _)).tr (aU.setCell _ (W.heap.size+1) 4 _);have c:(((((U.setCell ⟨W.heap.size+1,0,none⟩ (.bool r.cB)).setCell ⟨W.heap.size+1,1,none⟩ (vI r.k)).setCell ⟨W.heap.size+1,2,none⟩ (vI r.id)).setCell ⟨W.heap.size+1,3,none⟩ (.sl lv.a lv.n lv.c)).setCell ⟨W.heap.size+1,4,none⟩ (.string r.s)).heap[W.heap.size+1]?=ob (fM r.cB r.k r.id lv r.s) 34:=aO (i:=4) (aO (i:=3) (aO (i:=2) (aO (i:=1) (aO (i:=0) f))));have b5:=bg.out _ _ _ cb.out (Cu f c ck oM) ((((((Below.refl W.heap.size U).setCell (p:=(ad (W.heap.size+1) 0)) (by exact aBx _) _).setCell (p:=(ad (W.heap.size+1) 1)) (by exact aBx _) _).setCell (p:=(ad (W.heap.size+1) 2)) (by exact aBx _) _).setCell (p:=(ad (W.heap.size+1) 3)) (by exact aBx _) _).setCell (p:=(ad (W.heap.size+1) 4)) (by exact aBx _) _);go_wp2;generalize((((U.setCell ⟨W.heap.size+1,0,none⟩ (.bool r.cB)).setCell ⟨W.heap.size+1,1,none⟩ (.int .i64 r.k)).setCell ⟨W.heap.size+1,2,none⟩ (.int .i64 r.id)).setCell ⟨W.heap.size+1,3,none⟩ (.slice lv.a lv.n lv.c)).setCell ⟨W.heap.size+1,4,none⟩ (.string r.s)=VC at c b5⊢;clear P J T G R;have P:=bq c 0;have J:=bq c 1;have T:=bq c 2;have G:=bq c 3;have R:=bq c 4;simp[bodyPost,results,results33,go_sem,P,J,T,G,R];exact⟨r,lv,rfl,hX,b5,cn⟩
def ye{g p:Int}{Q:Bool->Int->Int->SV->Lp->vZ->K6}(z:W.cell? ⟨pw,0,none⟩=some (pq l 0))(G:pw<W.heap.size)(U:∀w,Bw W w->Cq 33 #[pq l 0,.agg (Od.cs ⟨src,dst,nonce,x,g,p,data,aS⟩)] w fun e w'=>∃c k id lv s h,e=.returned (.tuple #[.agg (fM c k id lv s),h])/\Q c k id lv s h w'/\Kp W.heap.size w w'/\w'.cell? ⟨pw,0,none⟩=W.cell? ⟨pw,0,none⟩)(a0:aB.b0<=W.heap.size)(X:∀c k id lv s h w w',Q c k id lv s h w->Px [34] w w'->Below W.heap.size w w'->Q c k id lv s h w'):
    Cq 15 #[pq pw 0,.agg (Od.cs ⟨src,dst,nonce,x,g,p,data,aS⟩)] W fun e w'=>∃c k id lv s h,e=.returned (.tuple #[.agg (fM c k id lv s),h])/\Q c k id lv s h w':=by
 have r:Bw W ((W.alloc (.cells (Od.cs ⟨src,dst,nonce,x,g,p,data,aS⟩) 43)).alloc (.cells #[.bool false,vI 0,vI 0,.slice none 0 0,.string ⟨#[]⟩] 34)):=(ba).alloc sI _;have L:((W.alloc (.cells (Od.cs ⟨src,dst,nonce,x,g,p,data,aS⟩) 43)).alloc (.cells #[.bool false,vI 0,vI 0,.slice none 0 0,.string ⟨#[]⟩] 34)).heap[W.heap.size]?=ob (Od.cs ⟨src,dst,nonce,x,g,p,data,aS⟩) 43:=aT (aM W _);have u:((W.alloc (.cells (Od.cs ⟨src,dst,nonce,x,g,p,data,aS⟩) 43)).alloc (.cells #[.bool false,vI 0,vI 0,.slice none 0 0,.string ⟨#[]⟩] 34)).heap[W.heap.size+1]?=ob #[.bool false,vI 0,vI 0,.slice none 0 0,.string ⟨#[]⟩] 34:=by have:=aM (W.alloc (.cells (Od.cs ⟨src,dst,nonce,x,g,p,data,aS⟩) 43)) (.cells #[.bool false,vI 0,vI 0,.slice none 0 0,.string ⟨#[]⟩] 34);simpa using this
 have m:=(r.cell (p:=⟨pw,0,none⟩) G).trans z;have t:=US (U _ r.drew);clear U;have b:W.heap.size<=W.heap.size+1:=aBx _;have D:W.heap.size<W.heap.size+1:=Nat.lt_succ_self _;go_enter (qz func15),Tryz.ntmps15;unfold Od.cs;go_wp2_with fail;change Code.wp _ _ _ _ ((W.alloc (.cells (Od.cs ⟨src,dst,nonce,x,g,p,data,aS⟩) 43)).alloc (.cells #[.bool false,vI 0,vI 0,.slice none 0 0,.string ⟨#[]⟩] 34));generalize((W.alloc (.cells (Od.cs ⟨src,dst,nonce,x,g,p,data,aS⟩) 43)).alloc (.cells #[.bool false,.int .i64 0,.int .i64 0,.slice none 0 0,.string ⟨#[]⟩] 34))=w1 at r L u m t⊢;generalize T:W.heap.size+1=R at u b D⊢;have Y:=US T;clear T;generalize P:W.heap.size=B at L D⊢;have E:W.heap.size<=B:=aBz P;have Z:=US P;clear P;refine rq (fun V=>V.cell? ⟨pw,0,none⟩=some (pq l 0)/\V.heap[B]?=ob (Od.cs ⟨src,dst,nonce,x,g,p,data,aS⟩) 43) ⟨m,L⟩ fun i=>?_;refine t3 0 1 2 i ?_;refine tV 3 (fun _ H=>H.1) i ?_;refine tV 4 (fun _ H=>Re (H.2)) i ?_;refine rA 5 fun K q=>?_;go_simp;refine Calls.mono t.out ?_;rintro e j ⟨c,k,id,lv,s,h,rfl,S,A,C⟩;have I:=US S;clear S;go_wp2_with fail;refine q.out _ _ ⟨C.trans z,A.2 _ _ _ E (.inl rfl) i.2⟩ fun i=>?_;clear q K t;refine t2 6 7 i ?_;have a:=A.2 _ _ _ oM (.inr rfl) u;have F:=bq a 0;have z0:=aQ a 0;have M:=bq a 1;have z1:=aQ a 1;have J:=bq a 2;have z2:=aQ a 2;have N:=bq a 3;have z3:=aQ a 3;have O:=bq a 4;have z4:=aQ a 4;unfold fM;refine rA 8 fun K q=>?_;go_simp;have o:aU [R] [] j (((((j.setCell ⟨R,0,none⟩ (.bool c)).setCell ⟨R,1,none⟩ (vI k)).setCell ⟨R,2,none⟩ (vI id)).setCell ⟨R,3,none⟩ (.slice lv.a lv.n lv.c)).setCell ⟨R,4,none⟩ (.string s)):=((((aU.setCell j R 0 _).trans (aU.setCell _ R 1 _)).trans (aU.setCell _ R 2 _)).trans (aU.setCell _ R 3 _)).trans (aU.setCell _ R 4 _);have d:(((((j.setCell ⟨R,0,none⟩ (.bool c)).setCell ⟨R,1,none⟩ (vI k)).setCell ⟨R,2,none⟩ (vI id)).setCell ⟨R,3,none⟩ (.slice lv.a lv.n lv.c)).setCell ⟨R,4,none⟩ (.string s)).heap[R]?=ob (fM c k id lv s) 34:=aO (i:=4) (aO (i:=3) (aO (i:=2) (aO (i:=1) (aO (i:=0) (a)))));have v:=X _ _ _ _ _ _ _ _ I.out (Cu a d o oM) ((((((Below.refl W.heap.size j).setCell (p:=⟨R,0,none⟩) b _).setCell (p:=⟨R,1,none⟩) b _).setCell (p:=⟨R,2,none⟩) b _).setCell (p:=⟨R,3,none⟩) b _).setCell (p:=⟨R,4,none⟩) b _);have n:(((((j.setCell ⟨R,0,none⟩ (.bool c)).setCell ⟨R,1,none⟩ (vI k)).setCell ⟨R,2,none⟩ (vI id)).setCell ⟨R,3,none⟩ (.slice lv.a lv.n lv.c)).setCell ⟨R,4,none⟩ (.string s)).cell? ⟨pw,0,none⟩=j.cell? ⟨pw,0,none⟩:=by
   have f:pw≠R:=oM
   rw[fV _ _ _ _ _ f,fV _ _ _ _ _ f,fV _ _ _ _ _ f,fV _ _ _ _ _ f,fV _ _ _ _ _ f]
 have y:(((((j.setCell ⟨R,0,none⟩ (.bool c)).setCell ⟨R,1,none⟩ (vI k)).setCell ⟨R,2,none⟩ (vI id)).setCell ⟨R,3,none⟩ (.slice lv.a lv.n lv.c)).setCell ⟨R,4,none⟩ (.string s)).heap[B]?=_:=o.obj i.2 (by simp[qB]) (by simp;exact oM);generalize(((((j.setCell ⟨R,0,none⟩ (.bool c)).setCell ⟨R,1,none⟩ (.int .i64 k)).setCell ⟨R,2,none⟩ (.int .i64 id)).setCell ⟨R,3,none⟩ (.slice lv.a lv.n lv.c)).setCell ⟨R,4,none⟩ (.string s))=V2 at o d v n y⊢;refine q.out _ _ ⟨n.trans i.1,y⟩ fun i=>?_;clear q K F M J N O;refine rA 9 fun K q=>?_;go_simp;refine q.out _ _ i fun i=>?_;refine dn ?_;have F:=bq d 0;have M:=bq d 1;have J:=bq d 2;have N:=bq d 3;have O:=bq d 4;go_wp2;simp[bodyPost,results,Tryz.results15,go_sem,F,M,J,N,O];cases c
 · exact .inl ⟨k,id,lv,s,h,⟨rfl,rfl⟩,v⟩
 · exact .inr ⟨k,id,lv,s,h,⟨rfl,rfl⟩,v⟩
def ky(o:Od)(D:o.data.size<=2000)(W:WR):
   Cq 18 #[.agg o.cs] W fun e w'=>e=.rt (vI (o.at:Int))/\Bw W w':=by
 obtain⟨z,a⟩:∃z,o.at=z:=⟨_,rfl⟩;rw[a];unfold Od.at at a;unfold Od.cs;obtain⟨src,dst,nonce,val,t,u,data,aS⟩:=o;simp only at D a⊢;have C:(data.data.size:Int)=(data.size:Int):=rfl;by_cases e:dst=0
 .subst e;rw[if_pos rfl] at a;have v:=aM W (.ce #[vI src,vI 0,vI nonce,vL val 0,vL val 1,vL val 2,vL val 3,vI t,vI u,.string data,vI aS] 43);have j:Bw W (W.alloc (.ce #[vI src,vI 0,vI nonce,vL val 0,vL val 1,vL val 2,vL val 3,vI t,vI u,.string data,vI aS] 43)):=ba;have r:=US a;clear a;go_enter (qz func18),ntmps18;go_wp2_with fail;go_loopw [4,3] (fun i c V=>∃k n:Nat,i=vI (k:Int)/\c=vI (n:Int)/\k<=data.size/\n<=53000+68*k/\Shut (n=53000+AP (data.data.toList.take k))/\V.heap[W.heap.size]?=ob #[vI src,vI 0,vI nonce,vL val 0,vL val 1,vL val 2,vL val 3,vI t,vI u,.string data,vI aS] 43/\Bw W V) (fun i _ _=>data.size - (Go.RowKit.intOf i).toNat)
  case atStart=>exact⟨0,53000,rfl,rfl,oM,oM,rfl,v,j⟩
  case round=>
   clear v j;obtain⟨k,n,rfl,rfl,E,H,g,l,s⟩:=hrel;have F:=bq l 9;have G:=aG l;by_cases d:k<data.size
   .have y:(k:Int)<(data.size:Int):=oM
    have q:data.data[k]?=some (data.data[k]'d):=aAN d;generalize data.data[k]'d=x at q;have w:=fun W=>ai data k x q W;have a1:IntKind.i64.wrap ((k:Int)+1)=((k+1:Nat):Int):=by rw[IntWalk.i64_in _ ⟨oM,oM⟩];omega
    have m:=sS data k x q;by_cases b:x=0
    .have a2:IntKind.i64.wrap ((n:Int)+4)=((n+4:Nat):Int):=by rw[IntWalk.i64_in _ ⟨oM,oM⟩];omega
     rw[if_pos b] at m;have f:Shut (n+4=53000+AP (data.data.toList.take (k+1))):=by have:=g.out;show _=_;omega
     have p:(x.toNat:Int)=0:=by rw[b];rfl
     clear m;go_wp2;go_roundw
     case rel=>exact⟨k+1,n+4,rfl,rfl,oM,oM,f,l,s⟩
     case measure=>simp[Go.RowKit.intOf];omega
    .have a2:IntKind.i64.wrap ((n:Int)+68)=((n+68:Nat):Int):=by rw[IntWalk.i64_in _ ⟨oM,oM⟩];omega
     rw[if_neg b] at m;have f:Shut (n+68=53000+AP (data.data.toList.take (k+1))):=by have:=g.out;show _=_;omega
     have p:¬(x.toNat:Int)=0:=fun h=>b (aCV.1 (by rw[show x.toNat=0 by omega];rfl));clear m;go_wp2;go_roundw
     case rel=>exact⟨k+1,n+68,rfl,rfl,oM,oM,f,l,s⟩
     case measure=>simp[Go.RowKit.intOf];omega
   .have A:¬(k:Int)<(data.size:Int):=oM
    have B:n=z:=by rw[g.out,xA _ _ oM,r.out]
    subst B;go_wp2;go_ret;exact⟨rfl,s⟩
 .rw[if_neg e] at a;have v:=aM W (.ce #[vI src,vI dst,vI nonce,vL val 0,vL val 1,vL val 2,vL val 3,vI t,vI u,.string data,vI aS] 43);have j:Bw W (W.alloc (.ce #[vI src,vI dst,vI nonce,vL val 0,vL val 1,vL val 2,vL val 3,vI t,vI u,.string data,vI aS] 43)):=ba;have r:=US a;clear a;go_enter (qz func18),ntmps18;go_wp2_with fail;go_loopw [4,3] (fun i c V=>∃k n:Nat,i=vI (k:Int)/\c=vI (n:Int)/\k<=data.size/\n<=53000+68*k/\Shut (n=21000+AP (data.data.toList.take k))/\V.heap[W.heap.size]?=ob #[vI src,vI dst,vI nonce,vL val 0,vL val 1,vL val 2,vL val 3,vI t,vI u,.string data,vI aS] 43/\Bw W V) (fun i _ _=>data.size - (Go.RowKit.intOf i).toNat)
  case atStart=>exact⟨0,21000,rfl,rfl,oM,oM,rfl,v,j⟩
  case round=>
   clear v j;obtain⟨k,n,rfl,rfl,E,H,g,l,s⟩:=hrel;have F:=bq l 9;have G:=aG l;by_cases d:k<data.size
   .have y:(k:Int)<(data.size:Int):=oM
    have q:data.data[k]?=some (data.data[k]'d):=aAN d;generalize data.data[k]'d=x at q;have w:=fun W=>ai data k x q W;have a1:IntKind.i64.wrap ((k:Int)+1)=((k+1:Nat):Int):=by rw[IntWalk.i64_in _ ⟨oM,oM⟩];omega
    have m:=sS data k x q;by_cases b:x=0
    .have a2:IntKind.i64.wrap ((n:Int)+4)=((n+4:Nat):Int):=by rw[IntWalk.i64_in _ ⟨oM,oM⟩];omega
     rw[if_pos b] at m;have f:Shut (n+4=21000+AP (data.data.toList.take (k+1))):=by have:=g.out;show _=_;omega
     have p:(x.toNat:Int)=0:=by rw[b];rfl
     clear m;go_wp2;go_roundw
     case rel=>exact⟨k+1,n+4,rfl,rfl,oM,oM,f,l,s⟩
     case measure=>simp[Go.RowKit.intOf];omega
    .have a2:IntKind.i64.wrap ((n:Int)+68)=((n+68:Nat):Int):=by rw[IntWalk.i64_in _ ⟨oM,oM⟩];omega
     rw[if_neg b] at m;have f:Shut (n+68=21000+AP (data.data.toList.take (k+1))):=by have:=g.out;show _=_;omega
     have p:¬(x.toNat:Int)=0:=fun h=>b (aCV.1 (by rw[show x.toNat=0 by omega];rfl));clear m;go_wp2;go_roundw
     case rel=>exact⟨k+1,n+68,rfl,rfl,oM,oM,f,l,s⟩
     case measure=>simp[Go.RowKit.intOf];omega
   .have A:¬(k:Int)<(data.size:Int):=oM
    have B:n=z:=by rw[g.out,xA _ _ oM,r.out]
    subst B;go_wp2;go_ret;exact⟨rfl,s⟩
def HB(n:Nat)(a:n<9223372036854775808)(W:WR):
  Cq 21 #[vI (n:Int)] W fun e w'=>e=.rt (wd n)/\Bw W w':=by
 rw[iU n oM];have b:IntKind.u64.wrap (n:Int)=(n:Int):=IntWalk.u64_in _ oM;clear a;go_enter (qz func21),ntmps21;go_wp2;simp[bodyPost,results,results21,go_sem];exact ba
end
section
variable [aB]
structure RP (W:WR)(l m d:Nat)(cr:Int)(A:AM)(dp li:Addr)(c:Nat):Prop where
 lf:LF W l m d cr A (fun _=>False) []
 ge:Ge W dp li
 av:∀i b v,A i=some (b,v)->jI W v c
 sup:mC A c
 bc:0<=cr/\cr<=c
def RP.px{T:K4}(h:RP W l m d cr A dp li c)(a:Px T W W')(e:128∉T/\136∉T/\262∉T/\1000∉T)(h4:4∉T):RP W' l m d cr A dp li c:=
 ⟨h.lf.XV a e,h.ge.px a,fun i b v f=>(h.av i b v f).px a h4 lR,h.sup,h.bc⟩
def RP.below(h:RP W l m d cr A dp li c)(a:Bw W W'):RP W' l m d cr A dp li c:=h.px (Px.aF a []) sI sI
def xz(a:∀i b v,A i=some (b,v)->jI W v c)(d:Tc A i b v J J'):jI W v c:=by
 rcases d with⟨e,_⟩| ⟨_,⟨ms,rfl⟩,_⟩
 .exact a i b v e
 .exact xo _ _ _
def OZ(d:∀i b v,A i=some (b,v)->jI W v c)(g:c<=c')(f:jI W v c'):∀j e u,up A i (some (b,v)) j=some (e,u)->jI W u c':=fun j e u a=>by
 unfold up at a;split at a
 .cases a;exact f
 .exact(d j e u a).px (Px.refl [] W) sI g
def jI.bal(h:jI W v c)(x:Nat):jI W {v with bal:=x} c:=⟨h.nonce,h.sup,h.row,h.code,h.mark⟩
def mC.ir(h:mC A c)(b:A i≠none):Ir i:=let⟨_,_,a,h3⟩:=h;h3 _ (a _ b)
def yd(A:AM)(o:Od)(f:AM):Prop:=
 ∃b v,A o.src=some (b,v)/\∃c a e d,Tc (up A o.src (some (b,{v with bal:=(v.bal+M - o.bP.toNat*o.bK.toNat) % M,nonce:=v.nonce+1}))) o.aS c a e d/\
  f=up (up A o.src (some (b,{v with bal:=(v.bal+M - o.bP.toNat*o.bK.toNat) % M,nonce:=v.nonce+1}))) o.aS (some (c,{a with bal:=(a.bal+o.bP.toNat*o.bK.toNat) % M}))
structure M8 (W:WR)(l m d:Nat)(cr:Int)(A:AM)(c:Nat)(src:Int)(x:Nat)(w:WR):Prop where
 ex:∃b v,A src=some (b,v)/\LF w l m d cr (up A src (some (b,{v with bal:=(v.bal+M - x) % M}))) (fun _=>False) [kH b v.bal]
 px:Px LT W w
def M8.mi(h:M8 W l m d cr A c src x w)(a:RP W l m d cr A dp li c)(f:W.heap.size<=mc)(j:w.heap[mc]?=ob (aZ l ⟨none,0,0⟩ 0 0) 165):
  ∃b v,A src=some (b,v)/\Mi w ⟨mc,l,m,d,dp,li⟩ ⟨up A src (some (b,{v with bal:=(v.bal+M - x) % M})),fun _=>False,[kH b v.bal],cr,0,[],0,0,c+1⟩:=by
 have⟨b,v,g,k⟩:=h.ex;have e:∀i b v,A i=some (b,v)->jI w v c:=fun i b v o=>(a.av i b v o).px h.px dC lR;refine⟨b,v,g,k,⟨⟨none,0,0⟩,j,rfl,.inl ⟨rfl,rfl⟩⟩,aAw a.ge.low f,a.ge.px h.px,OZ e (aBx _) (((e _ _ _ g).px (Px.refl [] w) sI (aBx _)).bal _),sO a.sup src (a.sup.ir (by rw[g];simp)) _,?_,⟨aBa _,fun u n=>by cases n⟩,⟨a.bc.1,?_⟩,⟨aBq _,?_⟩,⟨aBq _,by show(0:Int)<=64;decide⟩⟩
 .show 1<=c+1;omega
 .have:=a.bc.2;show cr<=((c+1:Nat):Int);omega
 .show(0:Int)<=24000*((c+1:Nat):Int);omega
def Ie{y:Nat}{d:AM}(h:Sd A J src aS x y d J')(k:c+2<=c')(a:∀i b v,A i=some (b,v)->jI W v c)(j:mC A c)(g:Ir src)(e:Ir aS):(∀i b v,d i=some (b,v)->jI W v c')/\mC d c':=by obtain⟨b,v,n,o,m,l,t1,t2,rfl,_⟩:=h;have a1:∀i f u,up A src (some (b,{v with bal:=(v.bal+x) % M})) i=some (f,u)->jI W u c:=OZ a lR ((xz a t1).bal _);exact⟨OZ a1 oM (((xz a1 t2).bal _).px (Px.refl [] W) sI oM),(sO (sO j src g _) aS e _).mono k⟩
def Lv.below{v:vZ}{c:Nat}(h:Lv W t v c)(e:Bw W W'):Lv W' t v c:=
 ⟨let⟨fn,a,b,k⟩:=h.ex;⟨fn,a,b,fun w d=>k w ((Px.aF e _).tr d)⟩,h.ty⟩
def Px.HI{T:K4}{u:WR}(h:Px T u w)(a:Below u.heap.size w w'):Px T u w':=
 ⟨a.os.tr h.os,a.tape.tr h.tape,a.output.tr h.output,aAw h.size a.size,fun k b=>by rw[a.block k b];exact h.block k b⟩
def Kp.px{B:Nat}{T:K4}(h:Px T w w')(b:43∉T)(a:34∉T):Kp B w w':=
 ⟨h.size,fun k c t _ e d=>h.row d (by rcases e with rfl|rfl;exact b;exact a)⟩
def Qf(A:AM)(o:Od)(t:Fh)(v:vZ)(r:RO)(s:St):Prop:=
 (t=174/\(∃(a:Int) (tx:Lp),v=.agg #[.int .i64 a,.string tx]/\r.s=tx)/\r.cB=true/\r.id=0)\/
 (t=177/\(∃(a:Int) (id:Int),v=.agg #[.int .i64 a,.int .i64 id]/\r.id=id)/\r.cB=true/\r.s=⟨#[]⟩)\/
 (t=217/\r.cB=false/\r.s=⟨#[]⟩/\r.id=0/\r.left=0/\s.back=0/\(∀i,¬s.D i)/\∃b v0,A o.src=some (b,v0)/\s.A=up A o.src (some (b,{v0 with bal:=(v0.bal+M - o.bP.toNat*o.bK.toNat) % M,nonce:=v0.nonce+1})))
structure Cv (W:WR)(l m d:Nat)(A:AM)(dp li:Addr)(c:Nat)(o:Od)(mc:Nat)(t:Fh)(v:vZ)(r:RO)(w:WR):Prop where
 ok:Ok A o
 ex:∃s:St,Mi w ⟨mc,l,m,d,dp,li⟩ s/\s.c<=c+1000100/\Qf A o t v r s/\r.back=s.back/\∃gl:Nat,r.left=(gl:Int)/\(gl:Int)+o.at<=o.bP/\Lv w t v gl/\r.k=(KI o.bP.toNat gl s.back.toNat:Int)
 px:Px TT W w
structure Lh (W:WR)(l m d:Nat)(A:AM)(dp li:Addr)(c:Nat)(o:Od)(r:RO)(w:WR):Prop where
 bP:(o.at:Int)<=2*r.k/\r.k<=o.bP
 ex:∃(cr':Int) (A':AM) (D:K7) (J:K3) (c':Nat),LF w l m d cr' A' D J/\Ge w dp li/\(∀i b v,A' i=some (b,v)->jI w v c')/\mC A' c'/\(0<=cr'/\cr'<=c')/\c'<=c+1000200/\
  (r.cB=true\/r.cB=false/\r.k=o.bP/\r.id=0/\r.s=⟨#[]⟩/\(∀i,¬D i)/\yd A o A')
 px:Px TT W w
structure M9 (W:WR)(l m d:Nat)(A:AM)(dp li:Addr)(c:Nat)(o:Od)(r:RO)(w:WR):Prop where
 bP:(o.at:Int)<=2*r.k/\r.k<=o.bP
 ex:∃(cr':Int) (A':AM) (c':Nat),RP w l m d cr' A' dp li c'/\c'<=c+1000200/\(r.cB=true\/r.cB=false/\r.k=o.bP/\r.id=0/\r.s=⟨#[]⟩/\yd A o A')
 px:Px TT W w
def Cw(g left a:Nat)(h:left<=g):g - left<=2*KI g left a:=by unfold KI;omega
def tn(g:Nat):KI g 0 0=g:=by unfold KI;omega
def Cv.below{v:vZ}{r:RO}(h:Cv W l m d A dp li c o mc t v r w)(a:Bw w w'):Cv W l m d A dp li c o mc t v r w':=
 ⟨h.ok,let⟨s,i,g,h3,h4,b,k,e,j,f⟩:=h.ex;⟨s,i.below a,g,h3,h4,b,k,e,j.below a,f⟩,h.px.tr (Px.aF a _)⟩
def Cx(h:A i=some (b,v))(a:v.bal<M):up A i (some (b,{v with bal:=(v.bal+0) % M}))=A:=by rw[aBd,aBS a];exact QS h
def Ok.nat(h:Ok A o):∃g p:Nat,o.bP=(g:Int)/\o.bK=(p:Int)/\g<=1000000/\p<=1000000:=by have⟨c,b,a,h3,_⟩:=h.ok;exact⟨o.bP.toNat,o.bK.toNat,oM,oM,oM,oM⟩
def Cy{v:vZ}{v0:Av}{s:St}(e:Ok A o)(K:A o.src=some (b,v0))(u:s=⟨up A o.src (some (b,{v0 with bal:=(v0.bal+M - o.bP.toNat*o.bK.toNat) % M})),fun _=>False,[kH b v0.bal],cr,0,[],0,0,c+1⟩)(P:Px LT W w)(X:Bo w ⟨mc,l,m,d,dp,li⟩ s o.src (o.bP.toNat - o.at) (.iface t v) w'):
  ∃r,Cv W l m d A dp li c o mc t v r w':=by
 obtain⟨z,a,n,H,z2,z3,G,E,x,I,hn,V,Q⟩:=X;have⟨g,p,hg,R,L,D⟩:=e.nat;have F:=e.bP;have S:s.c=c+1:=by rw[u]
 have j:a.c<=c+1000100:=by have:=I.c.2;omega
 have f:Px TT W w':=(P.mono dC).tr V;rcases Q with⟨h,tx,q,y⟩| ⟨h,id,q,y⟩| ⟨gg,fb,Z,q,⟨cs,y,h3⟩,h4,B⟩
 .cases q;exact⟨⟨true,tx,(h:Int),a.back,(KI o.bP.toNat h a.back.toNat:Int),0⟩,e,⟨a,x,j,.inl ⟨rfl,⟨_,tx,rfl,rfl⟩,rfl,rfl⟩,rfl,h,rfl,oM,.JQ _ _,rfl⟩,f⟩
 .cases q;exact⟨⟨true,⟨#[]⟩,(h:Int),a.back,(KI o.bP.toNat h a.back.toNat:Int),id⟩,e,⟨a,x,j,.inr (.inl ⟨rfl,⟨_,id,rfl,rfl⟩,rfl,rfl⟩),rfl,h,rfl,oM,.made _ _,rfl⟩,f⟩
 .cases q;have T:a.A=z.A:=by rw[B];rfl
  have N:a.D=z.D:=by rw[B];rfl
  have U:a.back=z.back:=by rw[B];rfl
  refine⟨⟨false,⟨#[]⟩,0,a.back,(KI o.bP.toNat 0 a.back.toNat:Int),0⟩,e,⟨a,x,j,.inr (.inr ⟨rfl,rfl,rfl,rfl,rfl,?_,fun i=>?_,b,v0,K,?_⟩),rfl,0,rfl,oM,.bad x.ge y h3 h4 _,rfl⟩,f⟩
  .rw[U,G,u]
  .rw[N,H,u];exact id
  .obtain⟨Y,v1,J,J',C,O⟩:=E;rw[T,O,u];have k:s.A o.src=some (b,{v0 with bal:=(v0.bal+M - o.bP.toNat*o.bK.toNat) % M}):=by rw[u];exact dN _ _ _
   rcases C with⟨k1,_⟩| ⟨k1,_⟩
   .rw[k] at k1;cases k1;exact oH _ _ _ _
   .rw[k] at k1;cases k1
def Cv.pad{v:vZ}{r:RO}(h:Cv W l m d A dp li c o mc t v r w)(hc:c<10000000)(S:Ir o.src)(hv:o.val<M):
  Cq 54 #[pq l 0,.agg o.cs,vI r.left,vI r.back] w fun e w'=>e=.rt (vI r.k)/\Lh W l m d A dp li c o r w'/\Kp W.heap.size w w':=by
 have⟨s,j,V,P,N,u,G,J,a3,q⟩:=h.ex;have⟨g,p,R,z,H,L⟩:=h.ok.nat;have F:=h.ok;have I:=j.bb;have⟨bk,C⟩:=aAW I.1;have y:Ir o.aS:=by have⟨_,_,_,_,_,_,_,K,h9,_⟩:=F.ok;exact⟨oM,h9⟩
 obtain⟨src,dst,nonce,val,bP,bK,data,aS⟩:=o;simp only at R z y S J hv;subst R z;rw[N,C,G];have E:((g:Int)).toNat=g:=rfl;have a0:((p:Int)).toNat=p:=rfl;have O:s.back.toNat=bk:=by rw[C];rfl
 simp only[E,O] at q;have f:u<=g:=oM
 refine(H8 j.lf src dst nonce val g p data aS u bk f H L oM (by have:=j.bj;omega)).mono ?_;rintro e w' ⟨rfl,⟨A',J',Z,k⟩,D⟩;have Q:=Ie (c':=s.c+2) k lR (fun i b v hi=>(j.av i b v hi).px D dC lR) j.sup S y;have ht:=Cw g u bk f;have hl:=gz g u bk;refine⟨by rw[q],⟨⟨?_,?_⟩,⟨s.cr,A',s.D,J',s.c+2,Z,j.ge.px D,Q.1,Q.2,⟨j.bc.1,by have:=j.bc.2;omega⟩,oM,?_⟩,h.px.tr (D.mono dC)⟩,Kp.px D dC dC⟩
 .rw[q];omega
 .rw[q];show((KI g u bk:Nat):Int)<=(g:Int);omega
 .rcases P with⟨_,_,B,_⟩| ⟨_,_,B,_⟩| ⟨_,B,Y,h3,h4,h5,h6,b,v0,h7,K⟩
  .exact .inl B
  .exact .inl B
  .have T:u=0:=oM
   have U:bk=0:=oM
   subst T U;rw[tn] at q k;refine .inr ⟨B,q,h3,Y,h6,b,v0,h7,?_⟩;obtain⟨X,v1,J1,b2,v2,J2,t1,t2,a,_⟩:=k;have n:s.A src=some (b,{v0 with bal:=(v0.bal+M - g*p) % M,nonce:=v0.nonce+1}):=by rw[K];exact dN _ _ _
   have x:X=b/\v1={v0 with bal:=(v0.bal+M - g*p) % M,nonce:=v0.nonce+1}:=by
    rcases t1 with⟨k1,_⟩| ⟨k1,_⟩
    .rw[n] at k1;cases k1;exact⟨rfl,rfl⟩
    .rw[n] at k1;cases k1
   have e2:(g - g)*p=0:=by rw[Nat.sub_self,aCy]
   rw[e2] at t2 a;rw[x.1,x.2,Cx n (aBE _ dC)] at t2 a;rw[K] at t2 a;exact⟨b2,v2,_,_,t2,a⟩
def Lh.fin{r:RO}(h:Lh W l m d A dp li c o r w):Cq 56 #[pq l 0] w fun e w'=>e=rU/\M9 W l m d A dp li c o r w'/\Kp W.heap.size w w':=by
 have⟨j,q,D,J,c',C,s,h3,h4,F,K,E⟩:=h.ex;apply(qw C).mono;rintro e w' ⟨rfl,⟨p,k1,L,y⟩,g⟩;have f:∀i b v,p i=some (b,v)->q i=some (b,v):=fun i b v a=>by
  rcases k1 i with e|e
  .rw[e] at a;cases a
  .rw[<-e];exact a
 refine⟨rfl,⟨h.bP,⟨j,p,c',⟨y,s.px g,fun i b v a=>(h3 i b v (f i b v a)).px g dC lR,?_,F⟩,K,E.imp id fun⟨B,N,G,q4,H,x⟩=>⟨B,N,G,q4,?_⟩⟩,h.px.tr (g.mono dC)⟩,Kp.px g dC dC⟩
 .obtain⟨t,I,z,M⟩:=h4;refine⟨t,I,fun k u=>z k fun e=>u ?_,M⟩;rcases k1 k with n|n
  .exact n
  .rw[n,e]
 .have e:p=q:=funext fun i=>L i (H i);rw[e];exact x
def Qg(h:RP W l m d cr A dp li c)(a8:aB.b1<=W.heap.size)(hc:c<10000000)(o:Od)(hv:o.val<M):
  Cq 33 #[pq l 0,.agg o.cs] W fun e w'=>(∃y:Int,y≠0/\e=.rt (.tuple #[.agg (fM false 0 0 ⟨none,0,0⟩ ⟨#[]⟩),.iface 90 (.agg #[vI y])])/\Bw W w')\/
   ∃(r:RO) (lv:SV),e=.rt (.tuple #[.agg (fM r.cB r.k r.id lv r.s),.nilIface])/\Ok A o/\M9 W l m d A dp li c o r w'/\(r.cB=false->lv.n=0):=by
 obtain⟨src,dst,nonce,val,S,R,data,aS⟩:=o;refine Calls.mono (Pq (X:=Ok A ⟨src,dst,nonce,val,S,R,data,aS⟩) (S1:=M8 W l m d cr A c src (S.toNat*R.toNat)) (S2:=Cv W l m d A dp li c ⟨src,dst,nonce,val,S,R,data,aS⟩) (S4:=Lh W l m d A dp li c ⟨src,dst,nonce,val,S,R,data,aS⟩) (S5:=M9 W l m d A dp li c ⟨src,dst,nonce,val,S,R,data,aS⟩)
  h.ge.low (fun n=>let⟨g,p,x,u,h3,h4⟩:=n.nat;⟨g,p,x,u,oM,oM⟩)
  (fun w f=>te (h.below f).lf _ hv) (fun n w f=>?_) (fun w w' x f=>⟨let⟨b,v,k1,j⟩:=x.ex;⟨b,v,k1,j.below f⟩,x.px.tr (Px.aF f _)⟩) (fun n w mc x a6 K=>?_) (fun mc t v r w w' x f=>x.below f) (fun w mc t v r u=>?_) (fun w mc t v r u=>?_) (fun w mc t v r u=>?_) (fun w mc t v r u=>u.pad hc ?_ hv) (fun w r h4=>h4.fin) (fun r w w' h4 z f=>?_) (fun r w w' Y z f=>?_)) fun e w' k=>k.imp (fun⟨y,a,b,c,_⟩=>⟨y,a,b,c⟩) id
 ·
  refine(xj (h.below f).lf src _ ?_ sI).mono ?_
  .have:=n.bal;have C:(gt A src).bal<M:=by
    obtain⟨L,dl,hL,rfl,_⟩:=h.lf;unfold gt;cases hi:am L src with
    |none=>show 0<M;decide
    |some bv=>
     have⟨q,hq,_,_,e⟩:=fR (b:=bv.1) (v:=bv.2) hi;show bv.2.bal<M;rw[<-e];exact hL.bal q hq
   simp only at this;omega
  .rintro e w' ⟨rfl,⟨b,v,J',X,hl⟩,z⟩;have I:=n.has;rcases X with⟨k1,rfl⟩| ⟨k1,_⟩
   .exact⟨rfl,⟨⟨b,v,k1,hl⟩,(Px.aF f _).tr z⟩,Kp.px z dC dC⟩
   .simp only at I;rw[k1] at I;cases I
 ·
  have⟨b,v,U,a5⟩:=x.mi h a6 K;have a0:Ir src:=h.sup.ir (by rw[U];simp);have⟨g,p,E,F,Z,aa⟩:=n.nat;have C:=n.bal;have V:=n.ok;have B:=n.bP;simp only at E F C B;subst E F;obtain⟨_,_,_,_,q4,q5,q6,_⟩:=V;simp only at q4 q5 q6;have a4:(gt A src).bal=v.bal:=by unfold gt;rw[U];rfl
  have ac:v.bal<M:=by obtain⟨L,dl,hL,rfl,_⟩:=h.lf;have⟨q,hq,_,_,e⟩:=fR U;rw[<-e];exact hL.bal q hq
  rw[a4] at C;refine(Ct a5 (aAw a8 x.px.size) src dst nonce val g (p:Int) data aS a0 ⟨q5,q6⟩ hv oM Z oM (by show c+1<80000000;omega) rfl ?_).mono ?_
  .show val<=(gt (up A src (some (b,{v with bal:=(v.bal+M - g*p) % M}))) src).bal;unfold gt;rw[dN];show val<=(v.bal+M - g*p) % M;have a9:g*p+val<=v.bal:=C;have e:v.bal+M - g*p=(v.bal - g*p)+M:=oM
   rw[e,Nat.add_mod_right,aBS oM];omega
  .rintro e w' ⟨t,v',rfl,hB⟩;have a7:Px TT w w':=let⟨_,_,_,_,_,_,_,_,_,_,_,z,_⟩:=hB;z
   have⟨r,hM⟩:=Cy (W:=W) (cr:=cr) (c:=c) (o:=⟨src,dst,nonce,val,(g:Int),(p:Int),data,aS⟩) n U rfl x.px hB;exact⟨t,v',r,rfl,hM,Kp.px a7 dC dC⟩
 ·
  have⟨s,K,Q,P,N,gl,H,B,O,hk⟩:=u.ex;rcases P with⟨rfl,⟨g2,tx,rfl,E⟩,F,T⟩| ⟨rfl,⟨g2,id,rfl,E⟩,F,T⟩| ⟨rfl,E,F,T,_⟩
  .rw[E,F,T];exact(Ia K oM g2 tx).mono fun e w' ⟨lv,k1,j⟩=>⟨lv,k1,j,fun hf=>by cases hf⟩
  .rw[E,F,T];exact(Ib K oM g2 id).mono fun e w' ⟨lv,k1,j⟩=>⟨lv,k1,j,fun hf=>by cases hf⟩
  .rw[E,F,T];exact(ic v mc w).mono fun e w' ⟨k1,j⟩=>⟨⟨none,0,0⟩,k1,j,fun _=>rfl⟩
 .have⟨s,K,Q,P,N,gl,H,B,O,hk⟩:=u.ex;have⟨fn,k1,j,k3⟩:=O.ex;rw[H];exact⟨fn,v,k1,j,k3 w (Px.refl _ _)⟩
 .have⟨s,K,Q,P,N,gl,H,B,O,hk⟩:=u.ex;have⟨lg,a3,_⟩:=K.mc;rw[N];exact ia a3
 .have I:=u.ok.has;refine h.sup.ir (i:=src) fun e=>?_;simp only at I;rw[e] at I;cases I
 .exact⟨h4.bP,let⟨G,A',D,J,c',k1,j,k3,k4⟩:=h4.ex;⟨G,A',D,J,c',k1.XV z dC,j.px z,fun i b v hi=>(k3 i b v hi).px z dC lR,k4⟩,h4.px.HI f⟩
 .exact⟨Y.bP,let⟨G,A',c',k1,j⟩:=Y.ex;⟨G,A',c',k1.px z dC dC,j⟩,Y.px.HI f⟩
structure Plain (a:Ac)(b:Nat)(n:Int):Prop where
 bal:a.bal=b
 nonce:a.nonce=n
 code:a.code=⟨#[]⟩
 sl:a.sl=[]
def Kn(l m:Nat)(dm:Dm)(cr:Int)(p1 p2 a:Nat)(b:Int)(d:Nat)(c:Nat)(w:WR):Prop:=
 ∃J a1 a2,LG w l m dm cr [(1,p1,a1),(2,p2,a2)] J/\Plain a1 a b/\Plain a2 d 0/\J.length<c
def ud(l m:Nat)(dm:Dm)(cr:Int)(p1 p2:Nat)(w:WR):Prop:=
 ∃J a1 a2 p3 a,LG w l m dm cr [(1,p1,a1),(2,p2,a2),(3,p3,a)] J/\Plain a1 8993 1/\Plain a2 7 0/\Plain a 21000 0
def sU(h:p1≠p2):fG [(i,p1,a1),(j,p2,a2)] p1 a=[(i,p1,a),(j,p2,a2)]:=by simp[fG,Ne.symm h]
def ig(h:p1≠p2):fG [(i,p1,a1),(j,p2,a2)] p2 a=[(i,p1,a1),(j,p2,a)]:=by simp[fG,h]
def Kn.below{a:Nat}{b:Int}{d c:Nat}(h:Kn l m dm cr p1 p2 a b d c w)(g:Bw w w'):Kn l m dm cr p1 p2 a b d c w':=
 let⟨J,a1,a2,f,e⟩:=h;⟨J,a1,a2,f.below g,e⟩
def E9:RO:=⟨true,⟨#[]⟩,4000,0,21000,0⟩
structure yf (W:WR)(l m:Nat)(dm:Dm)(cr:Int)(p1 p2 mc:Nat)(t:Fh)(v:vZ)(r:RO)(w:WR):Prop where
 kn:Kn l m dm cr p1 p2 4993 1 7 50 w
 mc:w.heap[mc]?=ob (aZ l ⟨none,0,0⟩ 0 0) 165
 pr:aU [l,p1,p2,m] [262] W w
 how:t=174/\v=.agg #[.int .i64 4000,.string ⟨#[]⟩]
 r:r=E9
def Na:(30000+M - 25000*1) % M=5000:=dC
def Nb:(5000+M - 7) % M=4993:=dC
def Nf:(0+7) % M=7:=dC
def Ng:(4993+4000*1) % M=8993:=dC
def aU.HI{B:K4}{T:List Fh}(h:aU B T W w)(a:Below W.heap.size w w'):aU B T W w':=⟨a.os.tr h.os,a.tape.tr h.tape,a.output.tr h.output,aAw h.size a.size,fun k b c=>by rw[a.block k b];exact h.block k b c⟩
def WL(h:Kn l m ⟨dmb,[]⟩ cr p1 p2 30000 0 0 10 W)(s:p1≠p2)(S:aB.b0<=W.heap.size):
  Cq 33 #[pq l 0,.agg (Od.cs ⟨1,2,0,7,((25000:Nat):Int),((1:Nat):Int),⟨#[]⟩,3⟩)] W fun e w'=>∃lv:SV,e=.rt (.tuple #[.agg (fM true 21000 0 lv ⟨#[]⟩),.nilIface])/\ud l m ⟨dmb,[]⟩ cr p1 p2 w'/\aU [l,p1,p2,m,dmb] [262] W w':=by
 have h0:=h;obtain⟨J0,a1,a2,E,o,P,a6⟩:=h;have a5:=E.cell0.1;have a4:p1<W.heap.size:=aG (E.acc (1,p1,a1) sI);have aa:p2<W.heap.size:=aG (E.acc (2,p2,a2) sI);have a9:=E.map.lt;have a7:dmb<W.heap.size:=E.iZ.lt;have O:∀(r:RO) (w w':WR),(r=E9/\ud l m ⟨dmb,[]⟩ cr p1 p2 w/\aU [l,p1,p2,m,dmb] [262] W w)->Px [34] w w'->Below W.heap.size w w'->(r=E9/\ud l m ⟨dmb,[]⟩ cr p1 p2 w'/\aU [l,p1,p2,m,dmb] [262] W w'):=fun r w w' ⟨hr,⟨J',x,C,p3,z,u,hQ⟩,F⟩ G a=>⟨hr,⟨J',x,C,p3,z,u.XV G dC,hQ⟩,F.HI a⟩;refine Calls.mono (Pq (X:=True) (Z:=False)
  (S1:=fun w=>Kn l m ⟨dmb,[]⟩ cr p1 p2 5000 0 0 20 w/\aU [l,p1,p2,m] [262] W w)
  (S2:=yf W l m ⟨dmb,[]⟩ cr p1 p2)
  (S4:=fun r w=>r=E9/\ud l m ⟨dmb,[]⟩ cr p1 p2 w/\aU [l,p1,p2,m,dmb] [262] W w)
  (S5:=fun r w=>r=E9/\ud l m ⟨dmb,[]⟩ cr p1 p2 w/\aU [l,p1,p2,m,dmb] [262] W w)
  S (fun _=>⟨25000,1,rfl,rfl,dC,dC⟩) (fun w a=>?_) (fun _ w a=>?_) (fun w w' j a=>⟨j.1.below a,j.2.tr (.aF a _ _)⟩) (fun _ w mc j X hm=>?_) (fun mc t v r w w' j a=>⟨j.kn.below a,bk a j.mc,j.pr.tr (.aF a _ _),j.how,j.r⟩) (fun w mc t v r f=>?_) (fun w mc t v r f=>?_) (fun w mc t v r f=>?_) (fun w mc t v r f=>?_) (fun w r h4=>?_) (fun r w w' h4 G a=>O r w w' h4 G a) (fun r w w' h5 G a=>O r w w' h5 G a)) ?_
 rotate_right
 .rintro e w' (⟨_,_,_,_,hz⟩| ⟨r,lv,rfl,_,⟨rfl,h3,h4⟩,_⟩)
  .exact hz.elim
  .exact⟨lv,rfl,h3,h4⟩
 .refine Calls.mono (te (A:=am [(1,p1,a1),(2,p2,a2)]) (D:=fun _=>False) ⟨_,[],E.below a,rfl,fun i=>⟨fun h=>(by cases h),fun h=>h.elim⟩,fun q hq p G=>(by simp at hq;rcases hq with rfl|rfl<;>simp[o.sl,P.sl] at G)⟩ ⟨1,2,0,7,((25000:Nat):Int),((1:Nat):Int),⟨#[]⟩,3⟩ dC) fun e w' k=>⟨k.1.elim (fun q=>(q.2.out ?_).elim) (fun q=>.inr ⟨q.1,trivial⟩),k.2⟩;exact⟨by simp[Od.ok,ByteArray.size],by decide,by simp[am],by simp[gt,am,av,o.nonce],by decide,by simp[Od.at,AP],by simp[gt,am,av,o.bal]⟩
 .apply(af (E.below a) (q:=(1,p1,a1)) sI (25000*1) dC oM).mono;rintro e w' ⟨rfl,j,f⟩;refine⟨rfl,⟨?_,(aU.aF a _ _).tr (f.mono (fun k _ d=>by simp at d;simp;omega) (fun t g=>g))⟩,Kp.jA f (fun k d=>by simp at d;omega) dC dC⟩;rw[sU s] at j;refine⟨_,_,_,j,⟨?_,o.nonce,o.code,o.sl⟩,P,by simp;omega⟩;show(a1.bal+M - 25000*1) % M=5000;rw[o.bal];exact Na
 .obtain⟨⟨J1,x,C,D,b,n,Z⟩,Q⟩:=j;refine tj D hm (q:=(1,p1,x)) sI 2 0 7 25000 1 3 dC dC dC (by show 0<=x.nonce;rw[b.nonce];decide) (by show x.nonce<_;rw[b.nonce];decide) oM
   (Φ:=fun e w'=>∃t v r,e=.rt (.iface t v)/\yf W l m ⟨dmb,[]⟩ cr p1 p2 mc t v r w'/\Kp W.heap.size w w')
   (fun e w' ⟨t,v,r,he,_⟩=>⟨t,v,he⟩) (fun w2 data L T B=>?_)
  rw[sU s] at L;obtain⟨z,N⟩:∃z:Ac,z={x with nonce:=x.nonce+1}:=⟨_,rfl⟩;have y:Plain z 5000 1:=by rw[N];exact⟨b.bal,by show x.nonce+1=1;rw[b.nonce];rfl,b.code,b.sl⟩
  have J:LG w2 l m ⟨dmb,[]⟩ cr [(1,p1,z),(2,p2,C)] (J1++[uG p1 x.nonce]):=by rw[N];exact L
  have a3:=PC J T (q:=(1,p1,z)) (p:=(2,p2,C)) sI sI s (by show C.code.size=0;rw[n.code];rfl) 7 dC (by show 7<=z.bal;rw[y.bal];decide) (((25000:Nat):Int) - 21000) data dC dC sQ0;apply a3.mono;rintro e w' ⟨t,v,rfl,Y,u,a0,H⟩;simp only[Value.iface.injEq] at Y;rw[sU s,ig s] at u;have U:aU [mc,l,p1,p2,m] [262] W w':=((Q.tr (B.mono (fun k _ d=>by simp at d;simp;omega) (fun t g=>g))).mono (fun k _ d=>by simp at d;simp;omega) (fun t g=>g)).tr (H.mono (fun k _ d=>by simp at d;simp;omega) (fun t g=>g));have K:aU [l,p1,p2,mc] [262] w w':=(B.mono (fun k _ d=>by simp at d;simp;omega) (fun t g=>g)).tr H;refine⟨t,v,E9,rfl,⟨⟨_,_,_,u,⟨?_,y.nonce,y.code,y.sl⟩,⟨?_,n.nonce,n.code,n.sl⟩,by simp;omega⟩,a0,U.drop X,⟨Y.1,Y.2⟩,rfl⟩,K.size,fun k c t d g R=>K.obj R (by rcases g with rfl|rfl<;>simp[qB]) ?_⟩
  .show(z.bal+M - 7) % M=4993;rw[y.bal];exact Nb
  .show(C.bal+7) % M=7;rw[n.bal];exact Nf
  .have a8:k≠mc:=fun e=>by subst e;rw[hm] at R;simp only[aAF,Obj.cells.injEq] at R;rcases g with rfl|rfl<;>exact absurd R.2.1 dC
   simp only[aAx,aAC,or_false,not_or];omega
 .obtain⟨rfl,rfl⟩:=f.how;refine(WC (N:=0) (xs:=[]) f.mc _ _ (fun V a=>(Cm (bk a f.mc)).mono fun e w' ⟨j,h3⟩=>⟨⟨none,0,0⟩,j,by rw[h3];exact Below.refl _ _,pQ.none _ _⟩)).mono ?_;rintro e w' ⟨lv,rfl,a,hl⟩;exact⟨lv,by rw[f.r];rfl,a,fun e=>by rw[f.r] at e;cases e⟩
 .obtain⟨rfl,rfl⟩:=f.how;refine⟨366,_,uc _,Yj,(JB _ _ w).mono ?_⟩;rintro e w' ⟨rfl,a⟩;exact⟨by rw[f.r];rfl,a⟩
 .exact(ia f.mc).mono fun e w' ⟨j,h3⟩=>⟨by rw[j,f.r];rfl,h3⟩
 .have⟨J1,x,C,D,b,n,Z⟩:=f.kn;rw[f.r];apply(WI D (q:=(1,p1,x)) sI 3 sI 2 0 7 25000 1 4000 21000 dC dC dC oM).mono;rintro e w' ⟨rfl,⟨pa,ms,J',ac,A⟩,I⟩;refine⟨rfl,⟨rfl,?_,(f.pr.mono (fun k _ d=>by simp at d;simp;omega) (fun t g=>g)).tr (I.mono (fun k _ d=>by simp at d;simp;omega) (fun t g=>g))⟩,Kp.jA I (fun k d=>by simp at d;omega) dC dC⟩;rw[sU s] at A;refine⟨_,_,_,_,_,A,⟨?_,b.nonce,b.code,b.sl⟩,n,⟨rfl,rfl,rfl,rfl⟩⟩;show(x.bal+4000*1) % M=8993;rw[b.bal];exact Ng
 .obtain⟨hr,⟨J',x,C,p3,z,u,hQ⟩,F⟩:=h4;apply(JF u).mono;rintro e w' ⟨rfl,A,f⟩;exact⟨rfl,⟨hr,⟨_,_,_,_,_,A,hQ⟩,F.tr (f.mono (fun k _ d=>by simp at d;simp;omega) (fun t g=>by cases g))⟩,Kp.jA f (fun k d=>by simp at d;omega) sI sI⟩
def BQ(q:Int×Nat×Ac):bF:=⟨q.1,q.2.2.bal,q.2.2.nonce,q.2.2.code,q.2.2.sl⟩
def LG.ledger(h:LG W l m dm cr L J)(d:∀q∈L,0<=q.1/\q.1<=4294967295)(f:∀q∈L,q.2.2.sl.length<100000000)(g:L.length<100000000):zO W l (L.map fun q=>(BQ q,q.2.1)):=by
 refine⟨⟨m,h.cell0.2,?_⟩,h.cell0.1,fun z b=>?_,?_,fun z b=>?_,by simpa using g⟩
 .have e:BP (L.map fun q=>(BQ q,q.2.1))=ids L:=by unfold BP ids;rw[aAS];rfl
  rw[e];exact h.map
 .obtain⟨q,a,rfl⟩:=aAJ.1 b;refine⟨⟨q.2.2.mark,q.2.2.ms,fun j v c=>?_,h.slot q a⟩,h.key q a,h.IX q a,f q a⟩;rw[aAM,aJ (h.acc q a) j];exact(aAY (xs:=zM (BQ q) q.2.2.mark q.2.2.ms)).tr c
 .rw[aAS];exact h.nd
 .obtain⟨q,a,rfl⟩:=aAJ.1 b;exact d q a
def Ik(a c e:Nat)(b d f:Int)(g c2 c3:Lp):told [⟨1,a,b,g,[]⟩,⟨2,c,d,c2,[]⟩,⟨3,e,f,c3,[]⟩]=[⟨1,a,b,g,[]⟩,⟨2,c,d,c2,[]⟩,⟨3,e,f,c3,[]⟩]:=by simp[told,sK,XW,JL]
def iu(h:ud l m ⟨dmb,[]⟩ cr p1 p2 W)(u:W.cA pw 0=some (pq l 0)):
  Cq 17 #[pq pw 0] W fun e w'=>∃g cap b,e=.rt (.sl (some (ad g 0)) 3 cap)/\Bw W w'/\w'.heap[g]?=ob b 52/\
   (∀i,i<4->b[1+i]?=some (vL 8993 i)/\b[9+i]?=some (vL 7 i)/\b[17+i]?=some (vL 21000 i))/\b[5]?=some (vI 1)/\3<=cap:=by
 obtain⟨J,a1,a2,p3,C,I,d,f,c⟩:=h;have z:=I.ledger (fun q r=>by simp at r;rcases r with rfl|rfl|rfl<;>simp) (fun q r=>by simp at r;rcases r with rfl|rfl|rfl<;>simp[d.sl,f.sl,c.sl]) sI;apply(zP _ pw l W u z).mono;rintro e w' ⟨v,B,rfl,G,L,j⟩;have N:([(1,p1,a1),(2,p2,a2),(3,p3,C)].map fun q:Int×Nat×Ac=>(BQ q,q.2.1)).map (·.1)=[⟨1,8993,1,a1.code,[]⟩,⟨2,7,0,a2.code,[]⟩,⟨3,21000,0,C.code,[]⟩]:=by simp[BQ,d.bal,d.nonce,d.sl,f.bal,f.nonce,f.sl,c.bal,c.nonce,c.sl]
 rw[N,Ik] at j;obtain⟨o,k,p,rfl⟩:∃o k p,B=[o,k,p]:=by
  have n:=congrArg List.length j;simp at n;match B,n with
  | [o,k,p],_=>exact⟨o,k,p,rfl⟩
 simp only[aBl,aCC,aBX,and_true] at j;obtain⟨x,A,w⟩:=j;rcases L.own.2 with⟨_,t⟩| ⟨g,cap,b,s,_,H,y,_,M,F⟩
 .simp at t
 .simp only[Value.slice.injEq] at s;obtain⟨s,t,h3⟩:=s;have a:∀i v,i<24->(eJ [o,k,p])[i]?=some v->b[i]?=some v:=fun i v D E=>by rw[<-F,aCg (by simpa using D),aBp] at E;exact E
  have K:eJ [o,k,p]=aV o.1 o.2++(aV k.1 k.2++(aV p.1 p.2++[])):=rfl;rw[K,x,A,w] at a;simp only[aV] at a;refine⟨g,cap,b,?_,G,H,fun i D=>?_,a 5 _ oM rfl,by simpa using y⟩
  .rw[s,t,h3];rfl
  .rcases(by omega:i=0\/i=1\/i=2\/i=3) with rfl|rfl|rfl|rfl<;>exact⟨a _ _ oM rfl,a _ _ oM rfl,a _ _ oM rfl⟩
structure Tv (v:Av)(d:bF):Prop where
 bal:d.bal=v.bal
 nonce:d.nonce=v.nonce
 code:d.code=v.code
 up:Up (fun q:Nat×Nat=>(q.1:Int)) d.bE
 sl:∀k x,(k,x)∈d.bE ↔ v.sl k=x/\x≠0
def iz{b:Type}{f:b->Int}{l m:List b}(g:Up f l)(c:Up f m)(h:∀a,a∈l ↔ a∈m):l=m:=
 have d:∀{l:List b},Up f l->l.Nodup:=fun h=>aCH (fun h e=>by rw[e] at h;omega) h
 pF ((aCv (d g) (d c)).2 h) g c
def Tv.eq{b:Av}{d:bF}(h:Tv v d)(a:Tv b d')(i:d.id=d'.id)(e:v.bal=b.bal/\v.nonce=b.nonce/\v.code=b.code/\v.sl=b.sl):d=d':=by
 have f:d.bE=d'.bE:=iz h.up a.up fun⟨k,x⟩=>by rw[h.sl,a.sl,e.2.2.2]
 have c:=h.bal.tr (e.1.tr a.bal.symm);have j:=h.nonce.tr (e.2.1.tr a.nonce.symm);have g:=h.code.tr (e.2.2.1.tr a.code.symm);cases d;cases d';simp only at i f c j g;subst i f c j g;rfl
structure Td (A:AM)(T:List bF):Prop where
 od:Up (fun d:bF=>d.id) T
 of:∀d∈T,∃b v,A d.id=some (b,v)/\Tv v d
 all:∀i,A i≠none->∃d∈T,d.id=i
def Td.uniq(h:Td A T){d:bF}(i:d∈T)(c:d'∈T)(e:d.id=d'.id):d=d':=by have⟨b,v,g,j⟩:=h.of d i;have⟨l,k,f,a⟩:=h.of d' c;rw[e,f] at g;cases g;exact j.eq a e ⟨rfl,rfl,rfl,rfl⟩
def Td.mem(h:Td A T)(d:bF):d∈T ↔ ∃b v,A d.id=some (b,v)/\Tv v d:=by refine⟨h.of d,fun⟨b,v,g,i⟩=>?_⟩;have⟨d',a,e⟩:=h.all d.id (by rw[g];simp);have⟨k,j,c,f⟩:=h.of d' a;rw[e,g] at c;cases c;rw[<-f.eq i e ⟨rfl,rfl,rfl,rfl⟩];exact a
def Td.eq(h:Td A T)(a:Td A T'):T=T':=iz h.od a.od fun d=>by rw[h.mem,a.mem]
def Td.set(h:Td A T){i:Nat}{d d1:bF}{v1:Av}(o:T[i]?=some d)(e:d1.id=d.id)(C:Tv v1 d1):Td (up A d.id (some (b,v1))) (T.set i d1):=by
 have c:=(aAO.1 o).1;have w:d∈T:=aBj o;have l:(T.set i d1).map (·.id)=T.map (·.id):=by
  rw[aDh,e];refine aDc fun j=>?_;rw[List.getElem?_set];split
  .rename_i n;subst n;rw[aBy,o];simp[c]
  .rfl
 have r:Up (fun d:bF=>d.id) (T.set i d1):=by have:=aBw.2 h.od;rw[<-l] at this;exact aBw.1 this
 refine⟨r,fun d' g=>?_,fun j u=>?_⟩
 .obtain⟨j,s,rfl⟩:=aBe.1 g;rw[List.getElem_set];split
  .exact⟨b,v1,by rw[e,dN],C⟩
  .rename_i q;have a:j<T.length:=by simpa using s
   have⟨z,x,y,h3⟩:=h.of T[j] (aBf a);refine⟨z,x,?_,h3⟩;unfold up;rw[if_neg]
   .exact y
   .intro m;have:=h.uniq (aBf a) w m;have v:=aBg.1 h.od;have p:T[i]=d:=(aAO.1 o).2;rcases Nat.lt_or_gt_of_ne q with f|f
    .have:=v i j c a f;simp only[p,m] at this;omega
    .have:=v j i a c f;simp only[p,m] at this;omega
 .by_cases n:j=d.id
  .subst n;exact⟨d1,aBe.2 ⟨i,by simpa using c,sI⟩,e⟩
  .unfold up at u;rw[if_neg n] at u;have⟨d',g,t⟩:=h.all j u;obtain⟨k,B,rfl⟩:=aBe.1 g;refine⟨T[k],aBe.2 ⟨k,by simpa using B,?_⟩,t⟩;rw[List.getElem_set_ne];intro m;subst m;have p:T[i]=d:=(aAO.1 o).2;rw[p] at t;exact n t.symm
def Td.app(h:Td A T){m:Int}{d:bF}(q:A m=none)(k:d.id=m)(r:Tv v d)(p:Td (up A m (some (b,v))) T'):(T++[d]).Perm T':=by
 have o:∀{l:List bF},Up (fun d:bF=>d.id) l->l.Nodup:=fun h=>aCH (fun h e=>by rw[e] at h;omega) h;have n:d∉T:=fun f=>by have⟨j,g,c,_⟩:=h.of d f;rw[k,q] at c;cases c
 refine(aCv ?_ (o p.od)).2 fun a=>?_
 .rw[aBv];exact⟨o h.od,sI,fun x t y s e=>n (by rw[aAB.1 s] at e;rw[<-e];exact t)⟩
 .rw[aAL,aAB,p.mem];constructor
  .rintro(u|rfl)
   .have⟨j,g,c,i⟩:=h.of a u;refine⟨j,g,?_,i⟩;unfold up;rw[if_neg (fun e=>by rw[e,q] at c;cases c)];exact c
   .exact⟨b,v,by rw[k,dN],r⟩
  .rintro⟨j,g,c,i⟩;by_cases e:a.id=m
   .rw[e,dN] at c;cases c;exact .inr (i.eq r (e.tr k.symm) ⟨rfl,rfl,rfl,rfl⟩)
   .unfold up at c;rw[if_neg e] at c;exact .inl ((h.mem a).2 ⟨j,g,c,i⟩)
theorem zQ:∀{sl:List (Nat×Nat)},(sl.map (·.1)).Nodup->(∀p∈sl,p.2≠0)->∀k x,(k,x)∈sl ↔ iV sl k=x/\x≠0
 | [],_,_,k,x=>by simp[iV];omega
 |p::l,g,b,k,x=>by
  have a:=aBt.1 g;have d:=zQ a.2 (fun q c=>b q (aAR _ c)) k x;unfold iV;rw[aAx];by_cases e:k=p.1
  .rw[if_pos e];constructor
   .rintro(h|h)
    .exact⟨by rw[<-h],by have:=b p aAQ;rw[<-h] at this;exact this⟩
    .exact absurd (by show p.1∈_;rw[<-e];exact aAI (f:=fun q:Nat×Nat=>q.1) h) a.1
   .rintro⟨f,_⟩;left;rw[e,<-f]
  .rw[if_neg e,<-d];constructor
   .rintro(h|h)
    .exact absurd (by rw[<-h]) e
    .exact h
   .exact .inr
def LG.td(h:LG W l m dm cr L J)(n:∀q∈L,∀p∈q.2.2.sl,p.2≠0):Td (am L) (told (L.map BQ)):=by
 have b:(L.map BQ).map (·.id)=L.map (·.1):=by rw[aAS];rfl
 refine⟨RR (by rw[b];exact h.nd),fun d j=>?_,fun i o=>?_⟩
 .obtain⟨r,c,rfl⟩:=aAJ.1 ((mF _).mem_iff.1 j);obtain⟨q,a,rfl⟩:=aAJ.1 c;refine⟨q.2.1,av q.2.2,yT h.nd a,⟨rfl,rfl,rfl,GF _ _ ?_,fun k x=>?_⟩⟩
  .have:=h.IX q a;show(q.2.2.sl.map fun p=>(p.1:Int)).Nodup;have e:(q.2.2.sl.map fun p=>(p.1:Int))=(q.2.2.sl.map (·.1)).map (fun k:Nat=>(k:Int)):=by rw[aAS];rfl
   rw[e];exact aBw.2 (aCH (fun h e=>h (Int.ofNat.inj e)) this)
  .show(k,x)∈XW (fun p:Nat×Nat=>(p.1:Int)) q.2.2.sl ↔ _;rw[(jY _ _).mem_iff];exact zQ (h.IX q a) (n q a) k x
 .cases f:am L i with
  |none=>exact absurd f o
  |some g=>
   have⟨q,a,e,_⟩:=fR (b:=g.1) (v:=g.2) f;exact⟨sK (BQ q),(mF _).mem_iff.2 (aAI (aAI a)),e⟩
end
end Go.Mark
