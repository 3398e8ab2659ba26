import Derived.Test.YtbephahokhnccaaGreatDoorJ22
set_option linter.all false
set_option maxRecDepth 100000
set_option maxHeartbeats 8000000
namespace Go.Mark
open Go.RowKit Go.Proofs Go.Proofs.Tryz
variable{A:AM}{cr i:Int}{C:Kc}{S:K4}{X J:K3}{f g b pl l m d:Nat}{sv mv:SV}{s:St}{v:vZ}{W W':WR}{F:fC}
section
variable [aB]
attribute [local go_sem] wd
def Cg(h:dT W f F sv mv S X)(pl:Nat)(i:F.place=(pl:Int)):
   Cq 261 #[pq f 0] W fun e n=>(∃x:Nat,x<256/\(x≠0->pl<F.text.size)/\e=.rt (vB (x:Int)))/\Bw W n:=by
 have d:=US i;clear i;by_cases g:pl<F.text.size
 .have l:¬(F.text.size:Int)<=(pl:Int):=oM
  obtain⟨x,o⟩:∃x,F.text.data[pl]?=some x:=⟨F.text.data[pl]'g,aAN g⟩;have k:=US g;go_enter (qz func261),ntmps261;go_wp2_with fail;refine rq (fun V=>V.heap[f]?=ob (iE F sv mv) 225) h.fc fun a=>?_;refine t3 0 1 2 a ?_;refine tD 3 6 (vI (pl:Int)) (fun V c=>?_) a ?_
  .have j:=bq c 16;rw[d.out] at j;clear c a;go_simp
  refine t3 4 5 6 a ?_;refine tV 7 (fun _ c=>bq c 4) a ?_;refine t2 8 9 a ?_;refine dn ?_;go_wp2_with fail;refine rq (fun V=>V.heap[f]?=ob (iE F sv mv) 225) h.fc fun a=>?_;refine t3 0 1 2 a ?_;refine tV 3 (fun _ c=>bq c 4) a ?_;refine t3 4 5 6 a ?_;refine tD 7 20 (vI (pl:Int)) (fun V c=>?_) a ?_
  .have j:=bq c 16;rw[d.out] at j;clear c a;go_simp
  refine tD 8 21 (vB (x.toNat:Int)) (fun V c=>?_) a ?_
  .clear c a;have m:F.text[pl]=x:=(aAu.1 o).2;go_simp;exact congrArg (fun b:UInt8=>(b.toNat:Int)) m
  refine t1 9 a ?_;refine dn ?_;go_wp2;go_ret;exact⟨⟨x.toNat,x.toNat_lt,fun _=>k.out,rfl⟩,bR.drew.drew⟩
 .have l:(F.text.size:Int)<=(pl:Int):=oM
  clear g;go_enter (qz func261),ntmps261;go_wp2_with fail;refine rq (fun V=>V.heap[f]?=ob (iE F sv mv) 225) h.fc fun a=>?_;refine t3 0 1 2 a ?_;refine tD 3 6 (vI (pl:Int)) (fun V c=>?_) a ?_
  .have j:=bq c 16;rw[d.out] at j;clear c a;go_simp
  refine t3 4 5 6 a ?_;refine tV 7 (fun _ c=>bq c 4) a ?_;refine t2 8 9 a ?_;refine dn ?_;go_wp2;go_ret;exact⟨⟨0,dC,fun h=>absurd rfl h,rfl⟩,bR.drew⟩
def Mz(h:dT W f F sv mv S X)(k:Mi W C s)(j:F.bP=(g:Int)):Cq 263 #[pq f 0,vB 0] W fun e l=>∃t v,e=.rt (.iface t v)/\En W C s f F g b (.iface t v) l:=by have d:=JP h (y:=⟨none,0,0⟩) (.inl ⟨rfl,rfl,rfl⟩);have a:=US j;clear j;go_enter (qz func263),ntmps263;go_wp2_with fail;apply d.mono;rintro e w1 ⟨⟨t,i,rfl⟩,m⟩;have c:=US i;clear d i;go_wp2;go_ret;exact⟨_,_,rfl,En.JQ k h.fz (.refl s) (Px.refl _ _) a.out oM (y:=⟨none,0,0⟩) dC m c.out⟩
def Tz.mono{x z c:Nat}(h:Tz x S z)(b:z<=c):Tz x S c:=
 ⟨fun a=>aAw (h.1 a) b,fun a=>aAw (h.2.1 a) b,fun a=>(h.2.2.1 a).mono b,fun a=>(h.2.2.2.1 a).mono b,fun a=>⟨(h.2.2.2.2.1 a).1.mono b,(h.2.2.2.2.1 a).2.mono b⟩,fun a=>⟨(h.2.2.2.2.2 a).1.mono b,(h.2.2.2.2.2 a).2.mono b⟩⟩
def En.up{b:fC}{l k:Nat}{j:WR}(h:En W C s f b l k v W')(a:b.m=F.m/\b.self=F.self/\b.bl=F.bl/\b.bg=F.bg/\b.bb=F.bb)(J:l+k<=g)(y:Px TT j W):En j C s f F g 0 v W':=by
 obtain⟨m,n,H,x,I,⟨B,i,c,w,r,E,u,p,D⟩,z⟩:=h;refine⟨m,n,H,x,y.tr I,⟨B,i,c,w,r.tr a.1,E.tr a.2.1,u.tr a.2.2.1,p.tr a.2.2.2.1,D.tr a.2.2.2.2⟩,?_⟩;rcases z with⟨q,t,e,d,h3,h4⟩| ⟨A,pl,G,o,e,d,h3,h4⟩
 .exact .inl ⟨q,t,e,oM,oM,h4⟩
 .rw[a.2.1,a.2.2.1,a.2.2.2.1,a.2.2.2.2] at d;exact .inr ⟨A,pl,G,o,e,d,h3,oM⟩
structure E8 (W:WR)(C:Kc)(s:St)(f:Nat)(F:fC)(sv mv:SV)(S:K4)(X:K3)(g pl:Nat):Prop where
 fr:dT W f F sv mv S X
 mi:Mi W C s
 fm:F.m=C.mc
 bP:F.bP=(g:Int)
 Po:F.place=(pl:Int)
 pb:pl<2147483712
 sl:S.length<=1024
 xl:3*fL X.length+g<30000000
 M0:F.mark.n<2147483648/\F.text.size<2147483648
 dl:F.data.n<=F.data.c/\F.data.n<2147483648
 vl:F.val<M/\Ir F.self
 gl:g<9000000
 cl:s.c+g<88000000
def H5(p:E8 W C s f F sv mv S X g pl)(H:∀w,w<g->Rp w):
   Cq 224 #[pq f 0] W fun e w'=>(e=.rt .nilIface/\∃N al q S' X' s' n u p2,E8 w' C s' f N al q S' X' u p2/\Ex n s s'/\n+u<=g/\u<g/\Px TT W w'/\N.self=F.self/\N.bl=F.bl/\N.bg=F.bg/\N.bb=F.bb/\3*fL X'.length+u<=3*fL X.length+g)\/∃t v,e=.rt (.iface t v)/\En W C s f F g 0 (.iface t v) w':=by
 have a7:=Cg p.fr pl p.Po;go_enter (qz func224),ntmps224;go_wp2_with fail;apply a7.mono;rintro e w1 ⟨⟨x,hx,b5,rfl⟩,o⟩;clear a7;have f1:=p.fr.below o;have m1:=p.mi.below o;have m:=My f1 m1 p.fm g p.bP (by have:=p.gl;omega) p.xl x hx;go_wp2_with fail;apply m.mono;rintro e w2 (⟨rfl,ar⟩| ⟨er,rfl,b1,J⟩)
 .clear m;obtain⟨k,l,c,ex,size,w,q,X',b8,hk,hl,a9,aa,A,b4,i,a3,b3⟩:=ar;have j:=US p.Po;have bg:=p.gl;have bo:=p.cl;have bh:=p.xl;have a6:X'.length<1073741824:=by unfold fL at*;omega
  have bm:=FV (x:=x);obtain⟨a,a8⟩:∃a,a=pl+OE x:=⟨_,rfl⟩;have a0:=US a8;have bd:=p.pb;have a1:IntKind.i64.wrap ((pl:Int)+(OE x:Int))=(a:Int):=by rw[IntWalk.i64_in _ ⟨oM,oM⟩];omega
  have Z:w2.cell? ⟨f,16,none⟩=some (.int .i64 (pl:Int)):=by rw[aJ i.fc 16,<-j.out];rfl
  have bb:=aG i.fc;have a4:=US a3;have Y:=US A;clear a8 a3 A;go_wp2_with fail;refine rq (fun V=>V.cA f 16=some (vI (pl:Int))) Z fun y=>?_;refine t4 0 1 2 3 y ?_;refine tV 4 (fun _ hW=>hW) y ?_;refine t1 5 y ?_;refine rA 6 fun K hK=>?_;go_simp;apply(QW x hx _).mono;rintro e w3 ⟨rfl,rfl⟩;go_wp2_with fail;refine hK.out _ _ y fun y=>?_;refine t3 7 8 9 y ?_;have JR:=aJ (w:=w2.drew) i.fc 17;have ac:=aQ (w:=w2.drew) i.fc 17;simp only[iE,aAY,aAP,aBb] at JR;have d:=(aJ (aO (i:=17) (v:=vI (a:Int)) (w:=w2.drew) i.fc) 16);simp only[iE,aAA,aAD,aAE,aAY,aAP,aBb] at d;rw[j.out] at d;refine rA 10 fun K hK=>?_;go_simp;refine hK.out _ _ d fun y=>?_;refine dn ?_;have G:(w2.drew.setCell ⟨f,17,none⟩ (vI (a:Int))).heap[f]?=ob (iE {F with bP:=(w:Int),next:=(a:Int)} sv q) 225:=aO (i:=17) (w:=w2.drew) i.fc;have D:Px [225] w2.drew (w2.drew.setCell ⟨f,17,none⟩ (vI (a:Int))):=fU (T:=[225]) (W:=w2.drew) i.fc G (aU.setCell w2.drew f 17 _) (fun t ht=>by cases ht) dC p.fr.lo;have f3:=(i.below bR.drew).cells (F':={F with bP:=(w:Int),next:=(a:Int)}) G D rfl rfl;have h:Px [225,5] W (w2.drew.setCell ⟨f,17,none⟩ (vI (a:Int))):=(((Px.aF o _).tr b3).tr (Px.aF bR.drew _)).tr (D.mono dC);have m3:=p.mi.px h dC;clear Z JR ac d y G D a1;have a5:(w2.drew.setCell ⟨f,17,none⟩ (vI (a:Int)))=(w2.setCell ⟨f,17,none⟩ (vI (a:Int))).drew:=by first|rfl|go_simp
  rw[a5] at f3 h m3;clear a5;generalize(w2.setCell ⟨f,17,none⟩ (.int .i64 (a:Int))).drew=V3 at f3 h m3⊢;obtain⟨b,O⟩:∃b,b=c+ex:=⟨_,rfl⟩;have B:Shut (b=c+ex/\w+c+ex<=g):=⟨O,b4⟩;by_cases T:x=0
  · subst T
    have P:=Mz (b:=b) f3 m3 rfl;clear O;go_wp2_with fail;apply P.mono;rintro e w4 ⟨t,v,rfl,hE⟩;clear P;go_wp2;go_ret;exact .inr ⟨t,v,rfl,hE.up ⟨rfl,rfl,rfl,rfl,rfl⟩ (by have:=B.out;omega) (h.mono dC)⟩
  · have q1:=a0.out
    have q2:=b5 T;have q3:=p.M0.2;have L:=Y.out;have pd:Pd V3 C s f {F with bP:=(w:Int),next:=(a:Int)} sv q S X' w b a:=⟨f3,m3,p.fm,rfl,rfl,oM,p.sl,a6,oM,oM,p.M0.1,p.dl,p.vl⟩;have P:=H3 pd x hx b8 hk hl (a9.mono aa) oM (ex:=ex) (fun e=>by have:=L.2.1 e;omega) (fun e=>by have:=L.2.2 e;omega) pl j.out (fun _=>q2) q3 oM oM oM oM fun g1 h1=>H g1 oM;clear O q1 q2 q3 L pd;go_wp2_with fail;apply P.mono;rintro e w4 (⟨rfl,a2,Q,S4,X4,s4,n,u,r,E,R,b2,b6,m4,x4,bc,bi,p4⟩| ⟨t,v,rfl,hE⟩)
    .clear P;have b7:=US R;have b9:=aG E.fc;have bf:=bq E.fc 16;have bn:=bq E.fc 17;have bj:=aQ E.fc 16;have I:(w4.setCell ⟨f,16,none⟩ (vI (r:Int))).heap[f]?=ob (iE {F with bP:=(u:Int),next:=(r:Int),place:=(r:Int)} a2 Q) 225:=aO (i:=16) E.fc;have M:Px [225] w4 (w4.setCell ⟨f,16,none⟩ (vI (r:Int))):=fU (T:=[225]) E.fc I (aU.setCell w4 f 16 _) (fun t ht=>by cases ht) dC p.fr.lo;have f5:=E.cells (F':={F with bP:=(u:Int),next:=(r:Int),place:=(r:Int)}) I M rfl rfl;have m5:=m4.px M dC;have bl:=x4.c.2;clear R I;go_wp2;go_ret;have r1:=b7.out;have r2:=B.out;have r3:=a4.out;refine .inl ⟨rfl,{F with bP:=(u:Int),next:=(r:Int),place:=(r:Int)},a2,Q,S4,X4,s4,n,u,r,⟨f5,m5,p.fm,rfl,rfl,b6,b2,?_,p.M0,p.dl,p.vl,oM,oM⟩,x4,oM,oM,((h.mono dC).tr p4).tr (M.mono dC),rfl,rfl,rfl,rfl,?_⟩
     .rw[r1];omega
     .rw[r1];omega
    .clear P;go_wp2;go_ret;exact .inr ⟨t,v,rfl,hE.up ⟨rfl,rfl,rfl,rfl,rfl⟩ (by have:=B.out;omega) (h.mono dC)⟩
 .clear m;have i:=f1.below J;have U:=zE i.fc 407 (.pointer (some er));go_wp2_with fail;apply U.mono;rintro e w3 ⟨rfl,ad,b0⟩;clear U;go_wp2;go_ret;have z:=o.tr (J.mono o.size);exact .inr ⟨_,_,rfl,En.bad (p.mi.below z) i.fz (.refl s) (Px.aF z _) oM (b1.px (Px.aF J []) m1.ge.low) b0 ad⟩
end
section
def DL(V:WR)(f:Nat):Nat:=match V.cell? ⟨f,13,none⟩ with
 |some (.int _ v)=>v.toNat
 |_=>0
variable [aB]
attribute [local go_sem] wd
def E8.DL(p:E8 W C s f F sv mv S X g pl):DL W f=g:=by unfold Go.Mark.DL;have:=aJ p.fr.fc 13;rw[this];show(match (some (vI F.bP):Option vZ) with|some (.int _ v)=>v.toNat|_=>0)=g;rw[p.bP];simp
def M1(p:E8 W C s f F sv mv S X g pl)(H:∀w,w<g->Rp w):
   Cq 180 #[pq f 0] W fun e w'=>∃t v,e=.rt (.iface t v)/\En W C s f F g 0 (.iface t v) w':=by
 go_enter (qz func180),ntmps180;go_wp2_with fail;go_loopw [3] (fun _ V=>∃d r k S1 Y L u K P,E8 V C L f d r k S1 Y K P/\Ex u s L/\u+K<=g/\Px TT W V/\Shut (d.m=F.m/\d.self=F.self/\d.bl=F.bl/\d.bg=F.bg/\d.bb=F.bb)) (fun _ V=>DL V f)
 case atStart=>exact⟨F,sv,mv,S,X,s,0,g,pl,p,.refl s,oM,Px.refl _ _,⟨rfl,rfl,rfl,rfl,rfl⟩⟩
 case round=>
  obtain⟨d,r,k,S1,Y,L,u,K,P,q,U,a0,l,j⟩:=hrel;have c:=H5 q fun w h'=>H w oM;have o:=q.DL;have m:=US o;clear o;go_wp2_with fail;apply c.mono;rintro e w2 (⟨rfl,i,E,y,S2,X2,s2,n2,A,p2,N,x2,a1,x,G,Q,O,R,T,_⟩| ⟨t,v,rfl,J⟩)
  .clear c;have b:=N.DL;have B:Shut (i.m=F.m/\i.self=F.self/\i.bl=F.bl/\i.bg=F.bg/\i.bb=F.bb):=⟨(N.fm.tr q.fm.symm).tr j.out.1,Q.tr j.out.2.1,O.tr j.out.2.2.1,R.tr j.out.2.2.2.1,T.tr j.out.2.2.2.2⟩;have h:=US b;clear b Q O R T;go_wp2;go_roundw
   case rel=>exact⟨i,E,y,S2,X2,s2,u+n2,A,p2,N,U.tr x2,oM,l.tr G,B⟩
   case measure=>rw[m.out,h.out];exact x
  .clear c;go_wp2;go_ret;refine⟨t,v,rfl,?_⟩;obtain⟨Z,n,m',x',p',⟨Fz,I,M,z1,z2,z3,z4,z5,z6⟩,J⟩:=J;have a:=j.out;refine⟨Z,u+n,m',U.tr x',l.tr p',⟨Fz,I,M,z1,z2.tr a.1,z3.tr a.2.1,z4.tr a.2.2.1,z5.tr a.2.2.2.1,z6.tr a.2.2.2.2⟩,?_⟩;rcases J with⟨A,t,D,z,h3,h4⟩| ⟨gg,pl,fb,er,D,z,h3,h4⟩
   .exact .inl ⟨A,t,D,oM,oM,h4⟩
   .rw[a.2.1,a.2.2.1,a.2.2.2.1,a.2.2.2.2] at z;exact .inr ⟨gg,pl,fb,er,D,z,h3,oM⟩
def gj(g:Nat):Rp g:=by
 induction g using Nat.strongRecOn with
 |_ g d=>
  intro _ W C s f F i h h3 h4 k b j e c a;refine M1 (pl:=0) ⟨i,h,h3,h4,k,dC,dC,?_,b,j,e,c,a⟩ d;show 3*fL 0+g<30000000;unfold fL;omega
end
section
variable [aB]
attribute [local go_sem] wd
structure Od where
 src:Int
 dst:Int
 nonce:Int
 val:Nat
 bP:Int
 bK:Int
 data:Lp
 aS:Int
def Od.cs(o:Od):Ff:=#[.int .i64 o.src,.int .i64 o.dst,.int .i64 o.nonce,.int .u64 (aI o.val 0),.int .u64 (aI o.val 1),.int .u64 (aI o.val 2),.int .u64 (aI o.val 3),.int .i64 o.bP,.int .i64 o.bK,.string o.data,.int .i64 o.aS]
def Od.ok(o:Od):Prop:=0<=o.bP/\o.bP<=1000000/\0<=o.bK/\o.bK<=1000000/\(o.data.size:Int)<=2000/\0<=o.dst/\o.dst<=4294967295/\1<=o.aS/\o.aS<=4294967295/\0<=o.nonce
def AP:List UInt8->Nat
 | []=>0
 |b::l=>(if b=0 then 4 else 68)+AP l
def gu(l:List UInt8)(b:UInt8):AP (l++[b])=AP l+if b=0 then 4 else 68:=by
 induction l with
 |nil=>simp[AP]
 |cons c l a=>simp only[aBi,AP,a];omega
def Od.at(o:Od):Nat:=(if o.dst=0 then 53000 else 21000)+AP o.data.data.toList
def Re{o:Od}(h:W.heap[b]?=ob o.cs 43):W.cell? ⟨b,0,none⟩=some (.int .i64 o.src)/\W.cell? ⟨b,1,none⟩=some (.int .i64 o.dst)/\W.cell? ⟨b,2,none⟩=some (.int .i64 o.nonce)/\W.cell? ⟨b,3,none⟩=some (.int .u64 (aI o.val 0))/\W.cell? ⟨b,4,none⟩=some (.int .u64 (aI o.val 1))/\W.cell? ⟨b,5,none⟩=some (.int .u64 (aI o.val 2))/\W.cell? ⟨b,6,none⟩=some (.int .u64 (aI o.val 3))/\W.cell? ⟨b,7,none⟩=some (.int .i64 o.bP)/\W.cell? ⟨b,8,none⟩=some (.int .i64 o.bK)/\W.cell? ⟨b,9,none⟩=some (.string o.data)/\W.cell? ⟨b,10,none⟩=some (.int .i64 o.aS):=⟨bq h 0,bq h 1,bq h 2,bq h 3,bq h 4,bq h 5,bq h 6,bq h 7,bq h 8,bq h 9,bq h 10⟩
def gv(o:Od)(W:WR):
   Cq 81 #[.agg o.cs] W fun e f=>(e=.rt (.bool false)/\Shut (¬o.ok)\/e=.rt (.bool true)/\Shut o.ok)/\Bw W f:=by
 unfold Od.cs;obtain⟨m,a,nonce,val,b,c,data,d⟩:=o;simp only;by_cases n:0<=b;by_cases j:b<=1000000;by_cases c2:0<=c;by_cases c3:c<=1000000;by_cases c4:(data.size:Int)<=2000;by_cases k:0<=a;by_cases l:a<=4294967295;by_cases i:1<=d;by_cases c8:d<=4294967295;by_cases g:0<=nonce;all_goals
  go_enter (qz func81),ntmps81;go_wp2;go_ret;first|exact⟨.inr ⟨rfl,⟨n,j,c2,c3,c4,k,l,i,c8,g⟩⟩,ba⟩|exact⟨.inl ⟨rfl,fun h=>by simp only[Od.ok] at h;omega⟩,ba⟩
def sS(t:Lp)(k:Nat)(x:UInt8)(a:t.data[k]?=some x):AP (t.data.toList.take (k+1))=AP (t.data.toList.take k)+if x=0 then 4 else 68:=by
 have h:t.data.toList[k]?=some x:=by rw[aBp];exact a
 rw[aDe,h];exact gu _ _
def xA(t:Lp)(k:Nat)(h:t.size<=k):AP (t.data.toList.take k)=AP t.data.toList:=by rw[aBP];exact h
def gx(o:Od)(H:o.data.size<=2000)(W:WR):
   Cq 84 #[.agg o.cs] W fun e I=>e=.rt (vI (o.at:Int))/\Bw W I:=by
 obtain⟨C,a⟩:∃C,o.at=C:=⟨_,rfl⟩;rw[a];unfold Od.at at a;unfold Od.cs;obtain⟨j,m,nonce,val,v,w,data,y⟩:=o;simp only at H a⊢;have G:(data.data.size:Int)=(data.size:Int):=rfl;by_cases e:m=0
 .subst e;rw[if_pos rfl] at a;have z:=aM W (.ce #[vI j,vI 0,vI nonce,vL val 0,vL val 1,vL val 2,vL val 3,vI v,vI w,.string data,vI y] 43);have l:Bw W (W.alloc (.ce #[vI j,vI 0,vI nonce,vL val 0,vL val 1,vL val 2,vL val 3,vI v,vI w,.string data,vI y] 43)):=ba;have t:=US a;clear a;go_enter (qz func84),ntmps84;go_wp2_with fail;go_loopw [13,3] (fun i c V=>∃k n:Nat,i=vI (k:Int)/\c=vI (n:Int)/\k<=data.size/\n<=53000+68*k/\Shut (n=53000+AP (data.data.toList.take k))/\V.heap[W.heap.size]?=ob #[vI j,vI 0,vI nonce,vL val 0,vL val 1,vL val 2,vL val 3,vI v,vI w,.string data,vI y] 43/\Bw W V) (fun i _ _=>data.size - (Go.RowKit.intOf i).toNat)
  case atStart=>exact⟨0,53000,rfl,rfl,oM,oM,rfl,z,l⟩
  case round=>
   clear z l;obtain⟨k,n,rfl,rfl,J,M,g,p,u⟩:=hrel;have K:=bq p 9;have L:=aG p;by_cases d:k<data.size
   .have B:(k:Int)<(data.size:Int):=oM
    have s:data.data[k]?=some (data.data[k]'d):=aAN d;generalize data.data[k]'d=x at s;have A:=fun W=>ai data k x s W;have N:IntKind.i64.wrap ((k:Int)+1)=((k+1:Nat):Int):=by rw[IntWalk.i64_in _ ⟨oM,oM⟩];omega
    have q:=sS data k x s;by_cases b:x=0
    .have E:IntKind.i64.wrap ((n:Int)+4)=((n+4:Nat):Int):=by rw[IntWalk.i64_in _ ⟨oM,oM⟩];omega
     rw[if_pos b] at q;have f:Shut (n+4=53000+AP (data.data.toList.take (k+1))):=by have:=g.out;show _=_;omega
     have r:(x.toNat:Int)=0:=by rw[b];rfl
     clear q;go_wp2;go_roundw
     case rel=>exact⟨k+1,n+4,rfl,rfl,oM,oM,f,p,u⟩
     case measure=>simp[Go.RowKit.intOf];omega
    .have E:IntKind.i64.wrap ((n:Int)+68)=((n+68:Nat):Int):=by rw[IntWalk.i64_in _ ⟨oM,oM⟩];omega
     rw[if_neg b] at q;have f:Shut (n+68=53000+AP (data.data.toList.take (k+1))):=by have:=g.out;show _=_;omega
     have r:¬(x.toNat:Int)=0:=fun h=>b (aCV.1 (by rw[show x.toNat=0 by omega];rfl));clear q;go_wp2;go_roundw
     case rel=>exact⟨k+1,n+68,rfl,rfl,oM,oM,f,p,u⟩
     case measure=>simp[Go.RowKit.intOf];omega
   .have D:¬(k:Int)<(data.size:Int):=oM
    have F:n=C:=by rw[g.out,xA _ _ oM,t.out]
    subst F;go_wp2;go_ret;exact⟨rfl,u⟩
 .rw[if_neg e] at a;have z:=aM W (.ce #[vI j,vI m,vI nonce,vL val 0,vL val 1,vL val 2,vL val 3,vI v,vI w,.string data,vI y] 43);have l:Bw W (W.alloc (.ce #[vI j,vI m,vI nonce,vL val 0,vL val 1,vL val 2,vL val 3,vI v,vI w,.string data,vI y] 43)):=ba;have t:=US a;clear a;go_enter (qz func84),ntmps84;go_wp2_with fail;go_loopw [13,3] (fun i c V=>∃k n:Nat,i=vI (k:Int)/\c=vI (n:Int)/\k<=data.size/\n<=53000+68*k/\Shut (n=21000+AP (data.data.toList.take k))/\V.heap[W.heap.size]?=ob #[vI j,vI m,vI nonce,vL val 0,vL val 1,vL val 2,vL val 3,vI v,vI w,.string data,vI y] 43/\Bw W V) (fun i _ _=>data.size - (Go.RowKit.intOf i).toNat)
  case atStart=>exact⟨0,21000,rfl,rfl,oM,oM,rfl,z,l⟩
  case round=>
   clear z l;obtain⟨k,n,rfl,rfl,J,M,g,p,u⟩:=hrel;have K:=bq p 9;have L:=aG p;by_cases d:k<data.size
   .have B:(k:Int)<(data.size:Int):=oM
    have s:data.data[k]?=some (data.data[k]'d):=aAN d;generalize data.data[k]'d=x at s;have A:=fun W=>ai data k x s W;have N:IntKind.i64.wrap ((k:Int)+1)=((k+1:Nat):Int):=by rw[IntWalk.i64_in _ ⟨oM,oM⟩];omega
    have q:=sS data k x s;by_cases b:x=0
    .have E:IntKind.i64.wrap ((n:Int)+4)=((n+4:Nat):Int):=by rw[IntWalk.i64_in _ ⟨oM,oM⟩];omega
     rw[if_pos b] at q;have f:Shut (n+4=21000+AP (data.data.toList.take (k+1))):=by have:=g.out;show _=_;omega
     have r:(x.toNat:Int)=0:=by rw[b];rfl
     clear q;go_wp2;go_roundw
     case rel=>exact⟨k+1,n+4,rfl,rfl,oM,oM,f,p,u⟩
     case measure=>simp[Go.RowKit.intOf];omega
    .have E:IntKind.i64.wrap ((n:Int)+68)=((n+68:Nat):Int):=by rw[IntWalk.i64_in _ ⟨oM,oM⟩];omega
     rw[if_neg b] at q;have f:Shut (n+68=21000+AP (data.data.toList.take (k+1))):=by have:=g.out;show _=_;omega
     have r:¬(x.toNat:Int)=0:=fun h=>b (aCV.1 (by rw[show x.toNat=0 by omega];rfl));clear q;go_wp2;go_roundw
     case rel=>exact⟨k+1,n+68,rfl,rfl,oM,oM,f,p,u⟩
     case measure=>simp[Go.RowKit.intOf];omega
   .have D:¬(k:Int)<(data.size:Int):=oM
    have F:n=C:=by rw[g.out,xA _ _ oM,t.out]
    subst F;go_wp2;go_ret;exact⟨rfl,u⟩
def gy(i j nonce:Int)(data:Lp)(val:Nat)(g p:Nat)(H:Int)(bal:Nat)(hg:g<100000000)(hp:p<100000000)(hv:val<M)(hb:bal<M)(W:WR):
  Cq 85 #[.agg (Od.cs ⟨i,j,nonce,val,(g:Int),(p:Int),data,H⟩),wd bal] W fun e w'=>(e=.rt (.bool false)/\Shut (¬g*p+val<=bal)\/e=.rt (.bool true)/\Shut (g*p+val<=bal))/\Bw W w':=by
 have L:g*p<M:=by have:g*p<10000000000000000:=aAy (aBJ hg hp) dC;unfold M;omega
 have q:Bw W ((W.alloc (.ce (Od.cs ⟨i,j,nonce,val,(g:Int),(p:Int),data,H⟩) 43)).alloc (.ce (wq (bal)) 41)):=(ba).alloc sI _;have S:=aT (p:=.ce (wq (bal)) 41) (aM W (.ce (Od.cs ⟨i,j,nonce,val,(g:Int),(p:Int),data,H⟩) 43));have hn:=aM (W.alloc (.ce (Od.cs ⟨i,j,nonce,val,(g:Int),(p:Int),data,H⟩) 43)) (.ce (wq (bal)) 41);rw[show(W.alloc (.ce (Od.cs ⟨i,j,nonce,val,(g:Int),(p:Int),data,H⟩) 43)).heap.size=W.heap.size+1 by simp] at hn;go_enter (qz func85),ntmps85;unfold Od.cs;go_wp2_with fail;change Code.wp _ _ _ _ ((W.alloc (.ce (Od.cs ⟨i,j,nonce,val,(g:Int),(p:Int),data,H⟩) 43)).alloc (.ce (wq (bal)) 41));generalize a5:(W.alloc (.cells (Od.cs ⟨i,j,nonce,val,(g:Int),(p:Int),data,H⟩) 43)).alloc (.cells (wq (bal)) 41)=w1 at q S hn⊢;refine nW (fun h _ V=>∃v,V.heap[h]?=ob (wq ((g*p+val) % M)) 41/\aU [h] [] v V/\Bw w1 v/\w1.heap.size<=h) ?_;apply Exists.intro;apply And.intro
 .skip
  refine rq (fun V=>V.heap[W.heap.size]?=ob (Od.cs ⟨i,j,nonce,val,(g:Int),(p:Int),data,H⟩) 43) S fun b=>?_;refine t1 0 b ?_;refine tV 1 (fun _ J=>bq J 7) b ?_;refine t1 2 b ?_;refine tV 3 (fun _ J=>bq J 8) b ?_;refine t1 5 b ?_;refine tV 6 (fun _ J=>aq (bq J 3) (aq (bq J 4) (aq (bq J 5) (bq J 6)))) b ?_;have c:Bw w1 w1.drew:=bR.drew;generalize w1.drew=v0 at c b⊢;refine wpAnyH_ready (rs:=[4,11]) kR sI ?_;refine AllReadyH.cons rfl (fun K d=>?_) (AllReadyH.cons rfl (fun K d=>?_) (AllReadyH.nil))
  .skip
   go_simp;apply(jH g p hg hp _).mono;rintro e v1 ⟨rfl,a⟩;go_wp2_with fail;refine d.out _ _ (bk a b) fun b=>?_;have f:=c.tr (a.mono c.size);clear a;refine wpAnyH_ready (rs:=[7,11]) kR sI ?_;refine AllReadyH.cons rfl (fun K d=>?_) (AllReadyH.cons rfl (fun K d=>?_) (AllReadyH.nil))
   .skip
    go_simp;apply(sum (g*p) val L hv _).mono;rintro e R ⟨rfl,a⟩;go_wp2_with fail;refine d.out _ _ (bk a b) fun b=>?_;have r:=f.tr (a.mono f.size);clear a;refine t3 8 9 10 b ?_;refine rA 11 fun K d=>?_
    .skip
     go_simp;obtain⟨h,l⟩:∃h,R.heap.size=h:=⟨_,rfl⟩;have s:=aM R (.ce wz 41);have a:Bw R (R.alloc (.ce wz 41)):=ba;have u:w1.heap.size<=h:=by have:=r.size;omega
     rw[l] at s⊢;have E:=r.tr (a.mono r.size);have Y:W.heap.size<w1.heap.size:=aG S;refine d.out _ (R.alloc (.ce wz 41)) (bk a b) fun b=>?_;clear d K a;generalize R.alloc (.cells wz 41)=v3 at s E b⊢;obtain⟨c0,c1,c2,c3,d0,d1,d2,d3⟩:=q8 s;refine rA 12 fun K d=>?_;go_simp;refine d.out _ _ (aD (aD (aD (aD b oM) oM) oM) oM) fun b=>?_;refine t1 13 b ?_;refine dn ?_;obtain⟨t,a1⟩:∃t:Nat,t=t:=⟨0,rfl⟩;exact⟨rfl,h,t,rfl,_,dV _ _ _ _ s,(fX v3 h _ _ _ _),E,u⟩
   .skip
    go_simp;obtain⟨h,l⟩:∃h,v1.heap.size=h:=⟨_,rfl⟩;have x:=aM v1 (.ce wz 41);have a:Bw v1 (v1.alloc (.ce wz 41)):=ba;have u:w1.heap.size<=h:=by have:=f.size;omega
    rw[l] at x⊢;have m:=f.tr (a.mono f.size);have Y:W.heap.size<w1.heap.size:=aG S;refine d.out _ (v1.alloc (.ce wz 41)) (bk a b) fun b=>?_;clear d K a;generalize v1.alloc (.cells wz 41)=v4 at x m b⊢;refine rA 7 fun K d=>?_
    .skip
     go_simp;apply(sum (g*p) val L hv _).mono;rintro e v5 ⟨rfl,a⟩;go_wp2_with fail;refine d.out _ _ (bk a b) fun b=>?_;have O:=m.tr (a.mono m.size);have G:=bk a x;clear a;refine t3 8 9 10 b ?_;obtain⟨c0,c1,c2,c3,d0,d1,d2,d3⟩:=q8 G;refine rA 12 fun K d=>?_;go_simp;refine d.out _ _ (aD (aD (aD (aD b oM) oM) oM) oM) fun b=>?_;refine t1 13 b ?_;refine dn ?_;obtain⟨t,a1⟩:∃t:Nat,t=t:=⟨0,rfl⟩;exact⟨rfl,h,t,rfl,_,dV _ _ _ _ G,(fX v5 h _ _ _ _),O,u⟩
  .skip
   go_simp;obtain⟨h,l⟩:∃h,v0.heap.size=h:=⟨_,rfl⟩;have B:=aM v0 (.ce wz 41);have a:Bw v0 (v0.alloc (.ce wz 41)):=ba;have u:w1.heap.size<=h:=by have:=c.size;omega
   rw[l] at B⊢;have o:=c.tr (a.mono c.size);have Y:W.heap.size<w1.heap.size:=aG S;refine d.out _ (v0.alloc (.ce wz 41)) (bk a b) fun b=>?_;clear d K a;generalize v0.alloc (.cells wz 41)=v6 at B o b⊢;refine rA 4 fun K d=>?_
   .skip
    go_simp;apply(jH g p hg hp _).mono;rintro e v7 ⟨rfl,a⟩;go_wp2_with fail;refine d.out _ _ (bk a b) fun b=>?_;have D:=o.tr (a.mono o.size);have Z:=bk a B;clear a;refine rA 7 fun K d=>?_
    .skip
     go_simp;apply(sum (g*p) val L hv _).mono;rintro e v8 ⟨rfl,a⟩;go_wp2_with fail;refine d.out _ _ (bk a b) fun b=>?_;have Q:=D.tr (a.mono D.size);have F:=bk a Z;clear a;refine t3 8 9 10 b ?_;obtain⟨c0,c1,c2,c3,d0,d1,d2,d3⟩:=q8 F;refine rA 12 fun K d=>?_;go_simp;refine d.out _ _ (aD (aD (aD (aD b oM) oM) oM) oM) fun b=>?_;refine t1 13 b ?_;refine dn ?_;obtain⟨t,a1⟩:∃t:Nat,t=t:=⟨0,rfl⟩;exact⟨rfl,h,t,rfl,_,dV _ _ _ _ F,(fX v8 h _ _ _ _),Q,u⟩
 .rintro h z V ⟨v,hz,w,n,u⟩;have a6:=aG hn;have a3:=bk n hn;have a4:=w.obj a3 (by show(41:Nat)∉[];simp) sQ0;have y:Bw W V:=⟨w.os.tr (n.os.tr q.os),w.tape.tr (n.tape.tr q.tape),w.output.tr (n.output.tr q.output),aAw q.size (aAw n.size w.size),fun k hk=>by
   have h1:=q.block k hk;have a2:k<w1.heap.size:=aAy hk q.size;rcases w.block k (aAy a2 n.size) sQ0 with e| ⟨_,_,_,h0,_⟩
   .exact e.tr ((n.block k a2).tr h1)
   .cases h0⟩
  obtain⟨c0,c1,c2,c3⟩:=q4 a4;obtain⟨e0,e1,e2,e3⟩:=q4 hz;by_cases N:g*p+val<M
  .have I:(g*p+val) % M=g*p+val:=aBS N;have A:((g:Int)*p+val) / (M:Int)=0:=by exact_mod_cast aDg N
   rw[I] at e0 e1 e2 e3;rw[I,A];have C:=less bal (g*p+val) hb N V;obtain⟨al,T⟩:∃al,g*p+val=al:=⟨_,rfl⟩;rw[T] at C e0 e1 e2 e3⊢;have U:=US T;by_cases X:bal<al
   .rw[decide_eq_true X] at C;go_wp2_with fail;apply C.mono;rintro e V2 ⟨rfl,P⟩;go_wp2;go_ret;exact⟨.inl ⟨rfl,by show¬_;have:=U.out;omega⟩,y.tr (P.mono y.size)⟩
   .rw[decide_eq_false X] at C;have a0:Shut (g*p+val<=bal):=by show g*p+val<=bal;omega
    go_wp2_with fail;apply C.mono;rintro e V2 ⟨rfl,P⟩;go_wp2;go_ret;exact⟨.inr ⟨rfl,a0⟩,y.tr (P.mono y.size)⟩
  .have A:((g:Int)*p+val) / (M:Int)=1:=by exact_mod_cast (Nat.div_eq_of_lt_le (by omega) (by omega):(g*p+val) / M=1)
   rw[A];go_wp2;go_ret;exact⟨.inl ⟨rfl,by show¬_;omega⟩,y⟩
def M7(o:Od)(b:o.ok)(j:o.val<M)(bal:Nat)(f:bal<M)(W:WR):
  Cq 85 #[.agg o.cs,wd bal] W fun e d=>(e=.rt (.bool false)/\Shut (¬o.bP.toNat*o.bK.toNat+o.val<=bal)\/e=.rt (.bool true)/\Shut (o.bP.toNat*o.bK.toNat+o.val<=bal))/\Bw W d:=by
 obtain⟨c,a,nonce,val,l,m,data,i⟩:=o;obtain⟨k,h,c2,c3,_⟩:=b;obtain⟨g,rfl⟩:=aAW k;obtain⟨p,rfl⟩:=aAW c2;simp only at h c3;exact gy c a nonce data val g p i bal oM oM j f W
def Pp(e:Ending):Prop:=∃y:Int,y≠0/\e=.returned (.int .i64 y)
structure Ok (A:AM)(o:Od):Prop where
 ok:o.ok
 src:o.src≠0
 has:(A o.src).isSome=true
 nonce:o.nonce=(gt A o.src).nonce
 nl:o.nonce<4611686018427387904
 bP:(o.at:Int)<=o.bP
 bal:o.bP.toNat*o.bK.toNat+o.val<=(gt A o.src).bal
def te{D:K7}(h:LF W l m d cr A D J)(o:Od)(P:o.val<M):
   Cq 48 #[pq l 0,.agg o.cs] W fun e N=>(Pp e/\Shut (¬Ok A o)\/e=.rt (vI 0)/\Shut (Ok A o))/\Bw W N:=by
 have k:Bw W (W.nc o.cs 43):=ba;have i:=aM W (.ce o.cs 43);have s:=h.below k;have F:=aG i;have y:=gv o (W.nc o.cs 43);clear h;go_enter (qz func48),ntmps48;unfold Od.cs at y⊢;go_wp2_with fail;apply y.mono;clear y;rintro e w1 ⟨⟨rfl,G⟩| ⟨rfl,x⟩,p⟩
 .have f:Bw W w1:=k.tr (p.mono k.size);go_wp2;go_ret;exact⟨.inl ⟨⟨_,dC,rfl⟩,fun h=>G.out h.ok⟩,f⟩
 .replace i:=bk p i;replace s:=s.below p;replace F:=aG i;have f:Bw W w1:=k.tr (p.mono k.size);clear k p;have Q:=bq i 0;by_cases r:o.src=0
  · go_wp2
    go_ret;exact⟨.inl ⟨⟨_,dC,rfl⟩,fun h=>h.src r⟩,f⟩
  · have g:=An s o.src
    cases n:(A o.src).isSome with
    |false=>
     rw[n] at g;go_wp2_with fail;apply g.mono;rintro e w2 ⟨rfl,u⟩;subst u;clear g;go_wp2;go_ret;exact⟨.inl ⟨⟨_,dC,rfl⟩,fun h=>by have:=h.has;rw[n] at this;cases this⟩,f⟩
    |true=>
     rw[n] at g;go_wp2_with fail;apply g.mono;rintro e w2 ⟨rfl,u⟩;subst u;clear g Q;have z:o.data.size<=2000:=by have:=x.out.2.2.2.2.1;omega
     replace r:=US r;replace n:=US n;have v:Bw w2 w2:=Below.refl _ _;by_cases q:o.nonce=(gt A o.src).nonce
     .by_cases w:4611686018427387904<=o.nonce
      · go_wp2_with fail;refine rq (fun V=>Bw w2 V) v.drew fun a=>?_;refine t1 0 a ?_;refine tV 1 (fun _ c=>bq (bk c i) 2) a ?_;refine t2 2 3 a ?_;refine tV 4 (fun _ c=>bq (bk c i) 0) a ?_;refine rA 5 fun K j=>?_;go_simp;apply(OD (s.below a) o.src).mono;rintro e I ⟨rfl,b⟩;go_wp2_with fail;refine j.out _ _ (a.tr (b.mono a.size)) fun a=>?_;clear b;refine t3 6 7 8 a ?_;refine tV 9 (fun _ c=>bq (bk c i) 2) a ?_;refine tD 10 31 (.bool true) (fun V c=>?_) a ?_
        .clear c a;go_simp;omega
        refine t2 11 12 a ?_;refine dn ?_;go_wp2;go_ret;exact⟨.inl ⟨⟨_,dC,rfl⟩,fun h=>by have:=h.nl;omega⟩,f.tr (a.mono f.size)⟩
      · have B:¬4611686018427387904<=o.nonce:=w
        go_wp2_with fail;refine rq (fun V=>Bw w2 V) v.drew fun a=>?_;refine t1 0 a ?_;refine tV 1 (fun _ c=>bq (bk c i) 2) a ?_;refine t2 2 3 a ?_;refine tV 4 (fun _ c=>bq (bk c i) 0) a ?_;refine rA 5 fun K j=>?_;go_simp;apply(OD (s.below a) o.src).mono;rintro e I ⟨rfl,b⟩;go_wp2_with fail;refine j.out _ _ (a.tr (b.mono a.size)) fun a=>?_;clear b;refine t3 6 7 8 a ?_;refine tV 9 (fun _ c=>bq (bk c i) 2) a ?_;refine tD 10 31 (.bool false) (fun V c=>?_) a ?_
        .clear c a;go_simp;omega
        refine t2 11 12 a ?_;refine dn ?_;have t:=US q;replace w:Shut (o.nonce<4611686018427387904):=by show o.nonce<4611686018427387904;omega
        clear B;replace q:=t;clear t;by_cases C:o.bP<(o.at:Int)
        · go_wp2_with fail;refine rq (fun V=>Bw w2 V) a.drew fun a=>?_;refine t1 0 a ?_;refine tV 1 (fun _ c=>bq (bk c i) 7) a ?_;refine tV 2 (fun _ c=>Re (bk c i)) a ?_;refine rA 3 fun K j=>?_;go_simp;apply(gx o z _).mono;rintro e O ⟨rfl,b⟩;go_wp2_with fail;refine j.out _ _ (a.tr (b.mono a.size)) fun a=>?_;clear b;refine t2 4 5 a ?_;refine dn ?_;go_wp2;go_ret;exact⟨.inl ⟨⟨_,dC,rfl⟩,fun h=>by have:=h.bP;omega⟩,f.tr (a.mono f.size)⟩
        · go_wp2_with fail;refine rq (fun V=>Bw w2 V) a.drew fun a=>?_;refine t1 0 a ?_;refine tV 1 (fun _ c=>bq (bk c i) 7) a ?_;refine tV 2 (fun _ c=>Re (bk c i)) a ?_;refine rA 3 fun K j=>?_;go_simp;apply(gx o z _).mono;rintro e O ⟨rfl,b⟩;go_wp2_with fail;refine j.out _ _ (a.tr (b.mono a.size)) fun a=>?_;clear b;refine t2 4 5 a ?_;refine dn ?_;go_wp2_with fail;replace C:Shut ((o.at:Int)<=o.bP):=by show(o.at:Int)<=o.bP;omega
          refine rq (fun V=>Bw w2 V) a.drew fun a=>?_;refine tV 0 (fun _ c=>Re (bk c i)) a ?_;refine t2 1 2 a ?_;refine tV 3 (fun _ c=>bq (bk c i) 0) a ?_;refine rA 4 fun K j=>?_;go_simp;apply(qm (s.below a) o.src).mono;rintro e R ⟨rfl,b⟩;go_wp2_with fail;refine j.out _ _ (a.tr (b.mono a.size)) fun a=>?_;clear b;refine rA 5 fun K j=>?_;go_simp;apply(M7 o x.out P _ (s.Lz _) _).mono;rintro e L ⟨⟨rfl,H⟩| ⟨rfl,E⟩,b⟩
          · skip
            go_wp2_with fail;refine j.out _ _ (a.tr (b.mono a.size)) fun a=>?_;clear j K b;refine t2 6 7 a ?_;refine dn ?_;go_wp2;go_ret;exact⟨.inl ⟨⟨_,dC,rfl⟩,fun h=>H.out h.bal⟩,f.tr (a.mono f.size)⟩
          · skip
            go_wp2_with fail;refine j.out _ _ (a.tr (b.mono a.size)) fun a=>?_;clear j K b;refine t2 6 7 a ?_;refine dn ?_;go_wp2;go_ret;exact⟨.inr ⟨rfl,⟨x.out,r.out,n.out,q.out,w.out,C.out,E.out⟩⟩,f.tr (a.mono f.size)⟩
     .go_wp2_with fail;refine rq (fun V=>Bw w2 V) v.drew fun a=>?_;refine t1 0 a ?_;refine tV 1 (fun _ c=>bq (bk c i) 2) a ?_;refine t2 2 3 a ?_;refine tV 4 (fun _ c=>bq (bk c i) 0) a ?_;refine rA 5 fun K j=>?_;go_simp;apply(OD (s.below a) o.src).mono;rintro e I ⟨rfl,b⟩;go_wp2_with fail;refine j.out _ _ (a.tr (b.mono a.size)) fun a=>?_;clear b;refine tD 6 27 (.bool true) (fun V c=>?_) a ?_
      .clear c a;go_simp
      refine t1 7 a ?_;refine tu (i:=8) (d:=some 29) rfl rfl a ?_;refine tu (i:=9) (d:=some 30) rfl rfl a ?_;refine tu (i:=10) (d:=some 31) rfl rfl a ?_;refine t2 11 12 a ?_;refine dn ?_;go_wp2;go_ret;exact⟨.inl ⟨⟨_,dC,rfl⟩,fun h=>q h.nonce⟩,f.tr (a.mono f.size)⟩
def Ck{v:Av}{a:K3}(h:Tc A i b v J a):a.length<=J.length+1:=by rcases h with⟨_,rfl⟩| ⟨_,_,rfl⟩<;>simp
def Sd(A:AM)(J:K3)(a f:Int)(x y:Nat)(i:AM)(h:K3):Prop:=
 ∃b v g d c e,Tc A a b v J g/\Tc (up A a (some (b,{v with bal:=(v.bal+x) % M}))) f d c (g++[kH b v.bal]) e/\
  i=up (up A a (some (b,{v with bal:=(v.bal+x) % M}))) f (some (d,{c with bal:=(c.bal+y) % M}))/\h=e++[kH d c.bal]
def KI(g left a:Nat):Nat:=g - left - min a ((g - left) / 2)
def gz(g left a:Nat):KI g left a<=g:=by unfold KI;omega
def H8{D:K7}(h:LF W l m d cr A D J)(f i nonce:Int)(val g p:Nat)(data:Lp)(j:Int)(left a:Nat)(U:left<=g)(hg:g<=1000000)(a0:p<=1000000)(a1:a<4611686018427387904)(hJ:J.length+4<100000000):
    Cq 54 #[pq l 0,.agg (Od.cs ⟨f,i,nonce,val,(g:Int),(p:Int),data,j⟩),vI (left:Int),vI (a:Int)] W fun e w'=>e=.rt (vI (KI g left a:Int))/\(∃A' J',LF w' l m d cr A' D J'/\Sd A J f j ((g - KI g left a)*p) (KI g left a*p) A' J')/\Px LT W w':=by
 have G:p<100000000:=oM
 obtain⟨k,Q⟩:∃k,k=KI g left a:=⟨_,rfl⟩;have C:=gz g left a;obtain⟨q,hq⟩:∃q,q=g - KI g left a:=⟨_,rfl⟩;obtain⟨t,ht⟩:∃t,t=g - left:=⟨_,rfl⟩;obtain⟨O,Y⟩:∃O,O=min a (t / 2):=⟨_,rfl⟩;have P:k+O=t:=by unfold KI at Q;exact oM
 rw[<-Q] at hq C⊢;rw[<-hq];have y:q<100000000:=oM
 have H:q*p<M:=aAy (aBJ y G) dC;have z:k<100000000:=oM
 have Z:k*p<M:=aAy (aBJ z G) dC;have r:Bw W (W.alloc (.ce (Od.cs ⟨f,i,nonce,val,(g:Int),(p:Int),data,j⟩) 43)):=ba;have N:=aM W (.ce (Od.cs ⟨f,i,nonce,val,(g:Int),(p:Int),data,j⟩) 43);have hL:=h.below r;have i1:IntKind.i64.wrap ((g:Int) - (left:Int))=(t:Int):=by rw[IntWalk.i64_in _ ⟨oM,oM⟩];exact oM
 have i3:IntKind.i64.wrap ((g:Int) - (k:Int))=(q:Int):=by rw[IntWalk.i64_in _ ⟨oM,oM⟩];exact oM
 obtain⟨tq,s⟩:∃tq,tq=t / 2:=⟨_,rfl⟩;have i4:IntKind.i64.wrap ((t:Int) / 2)=(tq:Int):=by rw[IntWalk.i64_in _ ⟨oM,oM⟩];exact oM
 have T:((tq:Int)<(a:Int)/\iw ((t:Int) - (tq:Int))=(k:Int))\/(¬(tq:Int)<(a:Int)/\iw ((t:Int) - (a:Int))=(k:Int)):=by
  by_cases hc:tq<a
  · exact .inl ⟨oM,(iW).tr oM⟩
  · exact .inr ⟨oM,(iW).tr oM⟩
 clear Q hq ht s Y P C U hg a0 a1;clear h;go_enter (qz func54),ntmps54;unfold Od.cs;rcases T with⟨hc,i2⟩| ⟨hc,i2⟩;all_goals
  first|(have S:min (a:Int) (tq:Int)=(tq:Int):=by exact oM)|(have S:min (a:Int) (tq:Int)=(a:Int):=by exact oM)
  go_wp2_with fail;change Code.wp _ _ _ _ (W.alloc (.ce (Od.cs ⟨f,i,nonce,val,(g:Int),(p:Int),data,j⟩) 43));generalize W.alloc (.cells (Od.cs ⟨f,i,nonce,val,(g:Int),(p:Int),data,j⟩) 43)=w1 at r N hL⊢;generalize W.heap.size=B at N⊢;refine rq (fun V=>V.heap[B]?=ob (Od.cs ⟨f,i,nonce,val,(g:Int),(p:Int),data,j⟩) 43) N fun c=>?_;refine t2 0 1 c ?_;refine tV 2 (fun _ n=>bq (n) 0) c ?_;refine t1 3 c ?_;refine tV 4 (fun _ n=>bq (n) 7) c ?_;refine t3 5 6 7 c ?_;refine tV 8 (fun _ n=>bq (n) 8) c ?_;refine rA 9 fun K u=>?_;go_simp;apply(jH q p y G _).mono;rintro e V1 ⟨rfl,E⟩;go_wp2_with fail;refine u.out _ _ (bk E c) fun c=>?_;have F:Bw w1 V1:=bR.drew.tr E;have R:=hL.below F;refine rA 10 fun K u=>?_;go_simp;apply(an R f (q*p) H oM).mono;rintro e V2 ⟨rfl,⟨b,v,J1,x,X⟩,p2⟩;go_wp2_with fail;refine u.out _ _ (p2.row c) fun c=>?_;refine dn ?_;go_wp2_with fail;refine rq (fun V=>V.heap[B]?=ob (Od.cs ⟨f,i,nonce,val,(g:Int),(p:Int),data,j⟩) 43) c fun c=>?_;refine t2 0 1 c ?_;refine tV 2 (fun _ n=>bq (n) 10) c ?_;refine t2 3 4 c ?_;refine tV 5 (fun _ n=>bq (n) 8) c ?_;refine rA 6 fun K u=>?_;go_simp;apply(jH k p z G _).mono;rintro e V3 ⟨rfl,o⟩;go_wp2_with fail;refine u.out _ _ (bk o c) fun c=>?_;have w:Bw V2 V3:=bR.drew.tr o;have L:=X.below w;refine rA 7 fun K u=>?_;go_simp;refine(an L j (k*p) Z (by have:=Ck x;simp;exact oM)).mono ?_;rintro e V4 ⟨rfl,⟨b2,v2,J2,s,I⟩,p4⟩;go_wp2_with fail;refine u.out _ _ (p4.row c) fun c=>?_;refine dn ?_;go_wp2;go_ret;exact⟨rfl,⟨_,_,I,b,v,J1,b2,v2,J2,x,s,rfl,rfl⟩,((Px.aF r _).tr (Px.aF F _)).tr (p2.tr ((Px.aF w _).tr p4))⟩
def fM(a:Bool)(b id:Int)(lv:SV)(s:Lp):Ff:=#[.bool a,.int .i64 b,.int .i64 id,.slice lv.a lv.n lv.c,.string s]
def Cp{a:Addr}{n c:Nat}{h:K3}(s:0<n)(K:n<100000001)(C:h.length=n*6)(t:∀j u,h[j]?=some u->W.cell? (a.add j)=some u)(A:∀u∈h,u.oneCell'=true)(G:a.block<W.heap.size):
  Cq 141 #[.sl (some a) n c] W fun e x=>∃lv:SV,e=.rt (.sl lv.a lv.n lv.c)/\Bw W x:=by
 obtain⟨i,z,E,B,D,m,q⟩:=OR;have I:=DM;have f:Bw W (W.nc #[] 95):=ba;have d:(W.nc #[] 95).ownsRow W.heap.size 95 6 (.sl (some (ad W.heap.size 0)) 0 0) 0 []:=⟨sI,.inr ⟨W.heap.size,0,#[],rfl,aAz _,aM W _,aAz _,sI,sI,sI⟩⟩;have p:=US t;have o:=US s;clear t s;go_enter zQ.func141,ntmps141;go_wp2_with (at_builtin;go_loud (refine jW _ rI _ _ 32 rI W.heap.size 95 i z 6 56 ((aC 32).tr underlying32) E B D m q oM (.sl (some (ad W.heap.size 0)) 0 0) 0 [] rI d a n c h rI C (fun j v F=>?_) A (by have:=o.out;omega) sQ9 oM sI (W.heap.size+1) sI ?_))
 .rw[f.cell (by unfold Addr.add;split<;>simpa using G)];exact p.out j v F
 intro g cap J l b y w r;go_wp2;simp[bodyPost,results,results141,go_sem];refine⟨⟨⟨some ⟨g,0,none⟩,n,cap⟩,rfl,rfl,rfl⟩,?_⟩;exact f.tr ⟨b.os,b.tape,b.output,b.size,fun k H=>b.block k sQ0 (fun e=>by simp[Value.ownBlock] at e;omega)⟩
def H9{d:Nat}{lg:SV}{b a:Int}(f:W.heap[d]?=ob (aZ l lg b a) 165)(h:Calls zQ.prog 141 #[.slice lg.a lg.n lg.c] W fun e c=>∃lv:SV,e=.returned (.slice lv.a lv.n lv.c)/\Below W.heap.size W c):Calls zQ.prog 93 #[pq d 0] W fun e c=>∃lv:SV,e=.returned (.slice lv.a lv.n lv.c)/\Below W.heap.size W c:=by have i:=bq f 1;go_enter (qz func93),ntmps93;go_wp2_with fail;apply h.mono;rintro e w ⟨lv,rfl,g⟩;go_wp2;go_ret;exact⟨lv,rfl,g⟩
def xy(h:Mi W C s)(t:s.c<100000001):Cq 93 #[pq C.mc 0] W fun e i=>∃lv:SV,e=.rt (.sl lv.a lv.n lv.c)/\Bw W i:=by
 have⟨lg,q,a⟩:=h.mc;have b:=h.bn;have v:=h.bj;refine H9 q ?_;rcases a.2 with⟨f,l⟩| ⟨g,cap,n,f,l,k,o,h4,p,m⟩
 .rw[f];have w:(binOp BinOp.eql 32 (Value.slice none 0 0) (Value.slice none 0 0)).run zQ.prog W=.ok (.bool true) W:=kR
  go_enter zQ.func141,ntmps141;go_wp2;go_ret;exact⟨⟨none,0,0⟩,rfl,.refl _ _⟩
 .rw[f];rcases aDa s.N with d|d
  .rw[d];exact(Co _ _ _).mono fun e i ⟨lv,k1,r,_⟩=>⟨lv,k1,r⟩
  .refine Cp d (aBV b.1 t) a.1 (fun j u c=>?_) b.2 (aG k);rw[Addr.add_mid,aAM,aJ k j];rw[<-m,List.getElem?_take] at c;split at c
   .rw[<-aBp];exact c
   .cases c
def Ia(l:Mi W C s)(E:s.c<100000001)(g:Int)(c:Lp):
  Cq 53 #[pq C.mc 0,.iface 174 (.agg #[vI g,.string c])] W fun e A=>∃lv:SV,e=.rt (.agg (fM true 0 0 lv c))/\Bw W A:=by
 have⟨lg,z,_⟩:=l.mc;have I:= @xw;have h:Bw W ((W.alloc (.ce rZ 34)).alloc (.ce #[vI g,.string c] 174)):=(ba).alloc sI _;have n:((W.alloc (.ce rZ 34)).alloc (.ce #[vI g,.string c] 174)).heap[W.heap.size]?=ob rZ 34:=aT (aM W _);have k:((W.alloc (.ce rZ 34)).alloc (.ce #[vI g,.string c] 174)).heap[W.heap.size+1]?=ob #[vI g,.string c] 174:=by have:=aM (W.alloc (.ce rZ 34)) (.ce #[vI g,.string c] 174);simpa using this
 have j:((W.alloc (.ce rZ 34)).alloc (.ce #[vI g,.string c] 174)).heap[C.mc]?=_:=aT (aT z);have D:=aG z;go_enter (qz func53),ntmps53;go_wp2_with fail;change Code.wp _ _ _ _ ((W.alloc (.ce rZ 34)).alloc (.ce #[vI g,.string c] 174));generalize((W.alloc (.cells #[.bool false,.int .i64 0,.int .i64 0,.slice none 0 0,.string ⟨#[]⟩] 34)).alloc (.cells #[.int .i64 g,.string c] 174))=w1 at h n k j⊢;refine rq (fun V=>V.heap[C.mc]?=ob (aZ C.l lg s.back s.depth) 165/\V.heap[W.heap.size+1]?=ob #[vI g,.string c] 174) ⟨j,k⟩ fun i=>?_;refine t2 0 2 i ?_;refine tV 3 (fun _ B=>bq (B.2) 1) i ?_;refine rA 1 fun K q=>?_;go_simp;apply(xy (l.below h.drew) E).mono;rintro e p ⟨lv,rfl,b⟩;go_wp2_with fail;refine q.out _ _ ⟨bk b i.1,bk b i.2⟩ fun i=>?_;refine t1 4 i ?_;have a:p.heap[W.heap.size]?=_:=bk b n;have v:Bw W p:=h.drew.tr (b.mono h.size);have x:=bk b j;have y:=bk b k;clear b;have o:=bq a 0;have M:=aQ a 0;have t:=bq a 1;have H:=aQ a 1;have r:=bq a 2;have F:=aQ a 2;have u:=bq a 3;have L:=aQ a 3;have w:=bq a 4;have G:=aQ a 4;have f:C.mc≠W.heap.size:=oM
 refine rA 5 fun K q=>?_;go_simp;refine q.out _ _ ⟨aD (aD (aD (aD (aD (x) f) f) f) f) f,aD (aD (aD (aD (aD (y) oM) oM) oM) oM) oM⟩ fun i=>?_;refine dn ?_;have d:=aO (i:=4) (v:=.string c) (aO (i:=3) (v:=.sl lv.a lv.n lv.c) (aO (i:=2) (v:=vI 0) (aO (i:=1) (v:=vI 0) (aO (i:=0) (v:=.bool true) (a)))));have m:=(((((v).setCell (p:=(ad W.heap.size 0)) (by exact aAz _) (.bool true)).setCell (p:=(ad W.heap.size 1)) (by exact aAz _) (vI 0)).setCell (p:=(ad W.heap.size 2)) (by exact aAz _) (vI 0)).setCell (p:=(ad W.heap.size 3)) (by exact aAz _) (.sl lv.a lv.n lv.c)).setCell (p:=(ad W.heap.size 4)) (by exact aAz _) (.string c);generalize(((((p.setCell ⟨W.heap.size,0,none⟩ (.bool true)).setCell ⟨W.heap.size,1,none⟩ (.int .i64 0)).setCell ⟨W.heap.size,2,none⟩ (.int .i64 0)).setCell ⟨W.heap.size,3,none⟩ (.slice lv.a lv.n lv.c)).setCell ⟨W.heap.size,4,none⟩ (.string c))=J at d m i⊢;clear o t r u w;have o:=bq d 0;have t:=bq d 1;have r:=bq d 2;have u:=bq d 3;have w:=bq d 4;go_wp2;simp[bodyPost,results,results53,go_sem,o,t,r,u,w];exact⟨⟨lv,rfl⟩,m⟩
def Ib(k:Mi W C s)(D:s.c<100000001)(g id:Int):
  Cq 53 #[pq C.mc 0,.iface 177 (.agg #[vI g,vI id])] W fun e z=>∃lv:SV,e=.rt (.agg (fM true 0 id lv ⟨#[]⟩))/\Bw W z:=by
 have⟨lg,y,_⟩:=k.mc;have I:= @DK;have E:= @DJ;have f:Bw W ((W.alloc (.ce rZ 34)).alloc (.ce #[vI g,vI id] 177)):=(ba).alloc sI _;have m:((W.alloc (.ce rZ 34)).alloc (.ce #[vI g,vI id] 177)).heap[W.heap.size]?=ob rZ 34:=aT (aM W _);have j:((W.alloc (.ce rZ 34)).alloc (.ce #[vI g,vI id] 177)).heap[W.heap.size+1]?=ob #[vI g,vI id] 177:=by have:=aM (W.alloc (.ce rZ 34)) (.ce #[vI g,vI id] 177);simpa using this
 have i:((W.alloc (.ce rZ 34)).alloc (.ce #[vI g,vI id] 177)).heap[C.mc]?=_:=aT (aT y);have B:=aG y;go_enter (qz func53),ntmps53;go_wp2_with fail;change Code.wp _ _ _ _ ((W.alloc (.ce rZ 34)).alloc (.ce #[vI g,vI id] 177));generalize((W.alloc (.cells #[.bool false,.int .i64 0,.int .i64 0,.slice none 0 0,.string ⟨#[]⟩] 34)).alloc (.cells #[.int .i64 g,.int .i64 id] 177))=w1 at f m j i⊢;refine rq (fun V=>V.heap[C.mc]?=ob (aZ C.l lg s.back s.depth) 165/\V.heap[W.heap.size+1]?=ob #[vI g,vI id] 177) ⟨i,j⟩ fun h=>?_;refine t2 0 2 h ?_;refine tV 3 (fun _ A=>bq (A.2) 1) h ?_;refine rA 1 fun K p=>?_;go_simp;apply(xy (k.below f.drew) D).mono;rintro e o ⟨lv,rfl,b⟩;go_wp2_with fail;refine p.out _ _ ⟨bk b h.1,bk b h.2⟩ fun h=>?_;refine t1 4 h ?_;have a:o.heap[W.heap.size]?=_:=bk b m;have u:Bw W o:=f.drew.tr (b.mono f.size);have w:=bk b i;have x:=bk b j;clear b;have n:=bq a 0;have M:=aQ a 0;have r:=bq a 1;have H:=aQ a 1;have q:=bq a 2;have F:=aQ a 2;have t:=bq a 3;have L:=aQ a 3;have v:=bq a 4;have G:=aQ a 4;have d:C.mc≠W.heap.size:=oM
 refine rA 5 fun K p=>?_;go_simp;refine p.out _ _ ⟨aD (aD (aD (aD (aD (w) d) d) d) d) d,aD (aD (aD (aD (aD (x) oM) oM) oM) oM) oM⟩ fun h=>?_;refine dn ?_;have c:=aO (i:=4) (v:=.string ⟨#[]⟩) (aO (i:=3) (v:=.sl lv.a lv.n lv.c) (aO (i:=2) (v:=vI id) (aO (i:=1) (v:=vI 0) (aO (i:=0) (v:=.bool true) (a)))));have l:=(((((u).setCell (p:=(ad W.heap.size 0)) (by exact aAz _) (.bool true)).setCell (p:=(ad W.heap.size 1)) (by exact aAz _) (vI 0)).setCell (p:=(ad W.heap.size 2)) (by exact aAz _) (vI id)).setCell (p:=(ad W.heap.size 3)) (by exact aAz _) (.sl lv.a lv.n lv.c)).setCell (p:=(ad W.heap.size 4)) (by exact aAz _) (.string ⟨#[]⟩);generalize(((((o.setCell ⟨W.heap.size,0,none⟩ (.bool true)).setCell ⟨W.heap.size,1,none⟩ (.int .i64 0)).setCell ⟨W.heap.size,2,none⟩ (.int .i64 id)).setCell ⟨W.heap.size,3,none⟩ (.slice lv.a lv.n lv.c)).setCell ⟨W.heap.size,4,none⟩ (.string ⟨#[]⟩))=J at c l h⊢;clear n r q t v;have n:=bq c 0;have r:=bq c 1;have q:=bq c 2;have t:=bq c 3;have v:=bq c 4;go_wp2;simp[bodyPost,results,results53,go_sem,n,r,q,t,v];exact⟨⟨lv,rfl⟩,l⟩
def Bo(W:WR)(C:Kc)(s:St)(e:Int)(g:Nat)(v:vZ)(d:WR):Prop:=
 ∃a c n,a.D=s.D/\a.N=s.N/\a.xs=s.xs/\a.back=s.back/\Rz s.A e a.A/\Mi d C c/\Ex n s c/\n<=g+30/\Px TT W d/\
  ((∃(b:Nat) (t:Lp),v=.iface 174 (.agg #[.int .i64 (b:Int),.string t])/\b<=g)\/
   (∃(b:Nat) (id:Int),v=.iface 177 (.agg #[.int .i64 (b:Int),.int .i64 id])/\b<=g)\/
   (∃(j:Int) (i:Nat) (h:Addr),v=.iface 217 (.agg #[.int .i64 j,.iface 299 (pq i 0)])/\(∃f,d.heap[i]?=ob f 303/\f[2]?=some (.iface 407 (.pointer (some h))))/\Eo d C.dp C.li h/\c=c.un a))
def tg(t:Lp)(w:WR):∃c a,(convert 9 31 (.string t)).run zQ.prog w=.ok (.slice (some ⟨w.heap.size,0,none⟩) t.size c) a/\t.size<=c/\Below w.heap.size w a/\∃e f,a.heap[w.heap.size]?=some (.cells e 5 f)/\∀i,i<t.size->∃b:Nat,b<256/\e[i]?=some (.int .u8 b):=by
 refine⟨_,_,run_bytes_of_string w 9 31 5 t ((aC 9).tr underlying9) ((aC 31).tr underlying31) ((aC 5).tr underlying5),?_,bR.drew.aL lR _,_,_,aM w.drew _,fun i d=>?_⟩
 .exact grownCap_ge _ _ _ _
 .exact⟨(t.data[i]'d).toNat,(t.data[i]'d).toNat_lt,bytesRow_at t _ i d⟩
def Cs{d:AM}(h:Rz A i d):(gt d i).bal=(gt A i).bal:=by
 obtain⟨b,v,J,e,c,rfl⟩:=h;unfold gt;rw[dN];rcases c with⟨a,_⟩| ⟨a,⟨ms,rfl⟩,_⟩
 .rw[a];rfl
 .rw[a];rfl
def Ce.bo{Z:Prop}{c l:St}{r:WR}{f:Int}(h:Ce Z r C l c g v W')(m:¬Z){k:Nat}(y:Ex k s l)(B:k<=4)(p2:Px TT W r)(d:c.D=s.D/\c.N=s.N/\c.xs=s.xs/\c.back=s.back/\Rz s.A f c.A):Bo W C s f g v W':=by
 obtain⟨u,n,z,x,A,o⟩:=h;refine⟨c,u,k+n,d.1,d.2.1,d.2.2.1,d.2.2.2.1,d.2.2.2.2,z,y.tr x,?_,p2.tr A,?_⟩
 .rcases o with⟨e,j,b,a,h3,h4⟩| ⟨e,id,b,a,h3⟩| ⟨p,q,i,b,a,h4,w,t⟩| ⟨i,b,a,h3,_⟩
  .omega
  .omega
  .omega
  .exact absurd h3 m
 .rcases o with⟨e,j,b,a,h3,h4⟩| ⟨e,id,b,a,h3⟩| ⟨p,q,i,b,a,h4,w,t⟩| ⟨i,b,a,h3,_⟩
  .exact .inl ⟨e,j,b,a⟩
  .exact .inr (.inl ⟨e,id,b,a⟩)
  .exact .inr (.inr ⟨p,q,i,b,a,h4,t⟩)
  .exact absurd h3 m
def Ct(hm:Mi W C s)(a7:aB.b1<=W.heap.size)(a b nonce:Int)(val g:Nat)(n:Int)(data:Lp)(m:Int)(y:Ir a)(a4:Ir b)(hv:val<M)(a3:data.size<=2000)(hg:g<=1000000)(L:(Od.at ⟨a,b,nonce,val,(g:Int),n,data,m⟩:Nat)<=g)(hc:s.c<80000000)(a8:s.depth=0)(u:val<=(gt s.A a).bal):
    Cq 52 #[pq C.mc 0,pq C.l 0,.agg (Od.cs ⟨a,b,nonce,val,(g:Int),n,data,m⟩)] W fun e w'=>∃t v,e=.rt (.iface t v)/\Bo W C s a (g - Od.at ⟨a,b,nonce,val,(g:Int),n,data,m⟩) (.iface t v) w':=by
 have p:Bw W (W.alloc (.ce (Od.cs ⟨a,b,nonce,val,(g:Int),n,data,m⟩) 43)):=ba;have Z:=aM W (.ce (Od.cs ⟨a,b,nonce,val,(g:Int),n,data,m⟩) 43);have m0:=hm.below p;obtain⟨H,j⟩:∃k,k=Od.at ⟨a,b,nonce,val,(g:Int),n,data,m⟩:=⟨_,rfl⟩;rw[<-j] at L⊢;obtain⟨w,O⟩:∃w,w=g - H:=⟨_,rfl⟩;rw[<-O];have i1:IntKind.i64.wrap ((g:Int) - (H:Int))=(w:Int):=by rw[IntWalk.i64_in _ ⟨oM,oM⟩];omega
 have r:w<9000000:=oM
 have a9:w<=1000000:=oM
 have f:=gx ⟨a,b,nonce,val,(g:Int),n,data,m⟩ a3;rw[<-j] at f;clear j O L;go_enter (qz func52),ntmps52;unfold Od.cs;go_wp2_with fail;change Code.wp _ _ _ _ (W.alloc (.ce (Od.cs ⟨a,b,nonce,val,(g:Int),n,data,m⟩) 43));generalize W.alloc (.cells (Od.cs ⟨a,b,nonce,val,(g:Int),n,data,m⟩) 43)=w0 at p Z m0⊢;have a0:W.heap.size<=W.heap.size:=aAz _;generalize F:W.heap.size=B at Z⊢;refine rq (fun V=>V.heap[B]?=ob (Od.cs ⟨a,b,nonce,val,(g:Int),n,data,m⟩) 43) Z fun c=>?_;refine t1 0 c ?_;refine tV 1 (fun _ hW=>bq (hW) 7) c ?_;refine tV 2 (fun _ hW=>Re (hW)) c ?_;refine rA 3 fun K N=>?_;go_simp;apply(f _).mono;rintro e V1 ⟨rfl,z⟩;go_wp2_with fail;refine N.out _ _ (bk z c) fun c=>?_;refine rA 4 fun K N=>?_;go_simp;refine N.out _ _ c fun c=>?_;refine rA 5 fun K N=>?_;go_simp;refine N.out _ _ c fun c=>?_;refine dn ?_;have o:Bw W V1:=p.drew.tr (z.mono p.size);have m1:=hm.below o;have al:=aG c;have Y:=o.size;have ar:=US F;clear F a0 z;have T:=bq c 0;have R:=bq c 1;have c3:=bq c 3;have c4:=bq c 4;have X:=bq c 5;have S:=bq c 6;have Q:=bq c 9;by_cases b0:b=0
 · have P:=RM m1 (aAw a7 Y) a y val hv (t:=data) oM r oM (gj w)
   go_wp2_with fail;apply P.mono;rintro e w2 ⟨t,v,rfl,l⟩;clear P T R c3 c4 X S Q;go_wp2;go_ret;rcases l with⟨s0,z1,U,z3,z4,z5,l⟩| ⟨er,_,_,x,_⟩
   · exact⟨t,v,rfl,l.bo id (Ex.refl s) oM (Px.aF o _) ⟨z1,U,z3,z4,z5⟩⟩
   · exact absurd ⟨oM,u⟩ x.out
 · have E:=fq m1 a y oM
   go_wp2_with fail;apply E.mono;rintro e w2 ⟨rfl,s2,m2,x2,p2,n2,k2,b2,d2,U⟩;clear E T R c3 c4 X S Q;have d:=p2.row c;have aa:=aG d;have T:=bq d 0;have R:=bq d 1;have c3:=bq d 3;have c4:=bq d 4;have X:=bq d 5;have S:=bq d 6;have Q:=bq d 9;have⟨cc,w3,a2,a6,q,cs,fz,h,I⟩:=tg data w2;have m3:=m2.below q;have A:aB.b0<=w3.heap.size:=aAw m2.ge.low q.size;have G:=aG h;have ac:=x2.c.2;have ad:=x2.dp;have D:= @KC ⟨aB.b0,w3.heap.size,A⟩ w3 C s2 w ⟨some ⟨w2.heap.size,0,none⟩,data.size,cc⟩ (Mi.base m3) lR (.inr ⟨_,0,cs,fz,rfl,G,h,fun i hi=>by rw[aAM];exact I i hi⟩) ⟨a6,by show data.size<_;omega⟩ a b y a4 val hv r oM (gj w);have J:Shut (aB.b1<=w3.heap.size):=by have:=p2.size;have:=q.size;show _<=_;omega
   have a1:Px TT W w3:=((Px.aF o _).tr (p2.mono dC)).tr (Px.aF q _);clear h I G;go_wp2_with fail;apply D.mono;rintro e w4 ⟨t,v,rfl,l⟩;clear D T R c3 c4 X S Q a2;go_wp2;go_ret;have a5:=Ce.base (h1:=aB.le) J.out l;exact⟨t,v,rfl,a5.bo (fun x=>x ⟨oM,by rw[Cs U];exact u⟩) x2 oM a1 ⟨d2,n2,k2,b2,U⟩⟩
end
end Go.Mark
