import Derived.Conc.LeavingOf
import Derived.Stop.LaidTwo
import Derived.LaidSub
import Derived.Test.YtbephahokhnccaaGreatDoorJ33
set_option linter.all false
set_option maxRecDepth 100000
set_option maxHeartbeats 16000000
namespace Go.Mark
open Go.RowKit Go.Proofs Go.Proofs.Tryz
variable{A:AM}{dp li p:Addr}{h0:Array Obj}{T:Ff}{cl:Bool}{cr:Int}{ds:List (bF×SV)}{cs:eX}{k:List Item}{os:List Od}{xl xd:List UInt8}{pw i bo l m d T0:Nat}{o:Od}{P:K5}{vo vi:SV}{y:vZ}{W v w u W':WR}
section
open Go.Lift
variable [aB]
attribute [local go_sem] wd
theorem Tu{T:Array Value}{vo v:SV}{pw i bo:Nat}{cl:Bool}{o:Od}(hT:nD T vo pw cl i bo v)(W:World)(hbo:W.heap[bo]?=ob o.cs 43){y:Code}{Q:Exit->Act->World->Prop}(hΦ:∀T',nD T' vo pw (cl&&decide (o.dst≠0)) i bo v->y.wp zQ.prog Q ⟨T',[]⟩ W):
  (Code.seq (D6 3) y).wp zQ.prog Q ⟨T,[]⟩ W:=by
 have hΦs:=US hΦ;clear hΦ;obtain⟨x,rfl⟩:=A6 T hT.sz;rw[show x 1=_ from Option.some.inj hT.t1,show x 6=_ from Option.some.inj hT.t6,show x 8=_ from Option.some.inj hT.t8,show x 11=_ from Option.some.inj hT.t11,show x 12=_ from Option.some.inj hT.t12,show x 13=_ from Option.some.inj hT.t13];clear hT;have c1:=bq hbo 1;have hbl:=aG hbo;dsimp only[D6,Sa,na,uM,nL,B6,Ri,Tryz.f7,Option.getD_some]
 cases cl
 .go_wp2_with fail
  exact hΦs.out _ ⟨rfl,rfl,rfl,rfl,rfl,rfl,rfl⟩
 .by_cases hd:o.dst=0
  .go_wp2_with fail
   exact hΦs.out _ ⟨rfl,rfl,rfl,by simp[hd],rfl,rfl,rfl⟩
  .go_wp2_with fail
   exact hΦs.out _ ⟨rfl,rfl,rfl,by simp[hd],rfl,rfl,rfl⟩
theorem Ez(y:Value)(V:World):(binOp BinOp.neq 36 (.iface 90 y) .nilIface).run zQ.prog V=.ok (.bool true) V:=kR
theorem Jk{T:Array Value}{vo v:SV}{pw i bo:Nat}{cl:Bool}{o:Od}(hT:nD T vo pw cl i bo v)(W:World)(hbo:W.heap[bo]?=ob o.cs 43){R:Value->World->Prop}{Q:Value->SV->World->Prop}(hdo:Calls zQ.prog 15 #[pq pw 0,.agg o.cs] W fun e w'=>∃cB k id lv s ev,e=.returned (.tuple #[.agg (fM cB k id lv s),ev])/\R ev w')(ha:∀ev w r,R ev w->Calls zQ.prog 17 #[pq pw 0] (w.alloc (.cells r 34)) fun e w'=>∃vn:SV,e=.returned (.slice vn.a vn.n vn.c)/\Q ev vn w')(hq:∀ev vn w,Q ev vn w->∃s t:Nat,s<M/\t<=s/\(cl=true->t=s)/\((∃y,ev=.iface 90 y/\t=s)\/ev=.nilIface)/\∀w2,Below w.heap.size w w2->(Calls zQ.prog 24 #[.slice v.a v.n v.c] w2 fun e w'=>e=.returned (wd s)/\Below w2.heap.size w2 w')/\Calls zQ.prog 24 #[.slice vn.a vn.n vn.c] w2 fun e w'=>e=.returned (wd t)/\Below w2.heap.size w2 w'){Z:Exit->Act->World->Prop}(hΦ:∀T' ev vn w w',eR T' vo pw cl i->Q ev vn w->Below w.heap.size w w'->Z .normal ⟨T',[]⟩ w'):
  (Code.seq (D6 4) (.seq (D6 5) (.seq (D6 6) (.seq (D6 7) (.seq (D6 8) (nL 9 Sa)))))).wp zQ.prog Z ⟨T,[]⟩ W:=by
 have hΦs:=US hΦ;have has:=US ha;have hqs:=US hq;clear hΦ ha hq;obtain⟨x,rfl⟩:=A6 T hT.sz;rw[show x 1=_ from Option.some.inj hT.t1,show x 6=_ from Option.some.inj hT.t6,show x 8=_ from Option.some.inj hT.t8,show x 11=_ from Option.some.inj hT.t11,show x 12=_ from Option.some.inj hT.t12,show x 13=_ from Option.some.inj hT.t13];clear hT;have hbl:=aG hbo;have c0:=bq hbo 0;have c1:=bq hbo 1;have c2:=bq hbo 2;have c3:=bq hbo 3;have c4:=bq hbo 4;have c5:=bq hbo 5;have c6:=bq hbo 6;have c7:=bq hbo 7;have c8:=bq hbo 8;have c9:=bq hbo 9;have XU:=bq hbo 10;unfold Od.cs at hdo;dsimp only[D6,Sa,na,uM,nL,B6,Ri,Tryz.f7,Option.getD_some]
 (go_wp2_with fail)
 refine hdo.mono ?_;rintro e w2 ⟨cB,k,id,lv,s0,ev,rfl,hR⟩;clear hdo c0 c1 c2 c3 c4 c5 c6 c7 c8 c9 XU hbo hbl;have hac:=has.out ev w2 (fM cB k id lv s0) hR;clear has hR;unfold fM
 (go_wp2_with fail)
 change Calls _ _ _ (w2.alloc (.cells (fM cB k id lv s0) 34)) _;refine hac.mono ?_;rintro e w3 ⟨vn,rfl,hQ⟩;clear hac;obtain⟨s,t,hs,hts,hcl,hev,h24⟩:=hqs.out ev vn w3 hQ;have hQs:=US hQ;clear hQ hqs;have h24s:=US h24;clear h24;have hcls:=US hcl;have hevs:=US hev;have htss:=US hts;clear hcl hev hts;generalize w2.heap.size=rb
 (go_wp2_with fail)
 refine(h24s.out w3 (Below.refl _ _)).1.mono ?_;rintro e w4 ⟨rfl,hb4⟩
 (go_wp2_with fail)
 change Calls _ _ _ (w4.alloc (.cells (wq s) 41)) _;have hb5:Below w3.heap.size w3 (w4.alloc (.cells (wq s) 41)):=hb4.alloc hb4.size _;have h18:=aM w4 (.cells (wq s) 41);generalize w4.alloc (.cells (wq s) 41)=w5 at hb5 h18⊢;generalize w4.heap.size=B at h18⊢;clear hb4
 refine(h24s.out w5 hb5).2.mono ?_;rintro e w6 ⟨rfl,hb6⟩;replace h18:=bk hb6 h18;replace hb6:=hb5.trans (hb6.mono hb5.size);clear hb5
 obtain⟨p0,p1,p2,p3⟩:=q4 h18;have l1:=aG h18
 (go_wp2_with fail)
 change Calls _ _ _ (w6.alloc (.cells (wq t) 41)) _;have h19:=aM w6 (.cells (wq t) 41);have hb7:Below w6.heap.size w6 (w6.alloc (.cells (wq t) 41)):=ba
 generalize w6.alloc (.cells (wq t) 41)=w7 at h19 hb7⊢;clear p0 p1 p2 p3 l1;replace h18:=bk hb7 h18;replace hb7:=hb6.trans (hb7.mono hb6.size);clear hb6;generalize w6.heap.size=D at h19⊢;have hk:=Ub (fun W=>S9 s t 0 hs (Nat.lt_of_le_of_lt htss.out hs) W) w7;rw[if_neg (Nat.not_lt.2 htss.out)] at hk;obtain⟨z,hz⟩:∃z:Nat,z=0:=⟨0,rfl⟩;rw[<-hz] at hk;refine hk.mono ?_;rintro e w8 ⟨rfl,hb8⟩;clear hk;replace h18:=bk hb8 h18;replace h19:=bk hb8 h19;replace hb8:=hb7.trans (hb8.mono hb7.size);clear hb7;have h25:=Sx z (by rw[hz];decide);rw[show decide (z=1)=false by rw[hz];rfl] at h25;have hzs:=US hz;clear hz
 obtain⟨p0,p1,p2,p3⟩:=q4 h18;obtain⟨r0,r1,r2,r3⟩:=q4 h19;have l1:=aG h18;have l2:=aG h19
 (go_wp2_with fail)
 change Calls _ _ _ (w8.alloc (.cells (wq z) 41)) _;have hb9:Below w8.heap.size w8 (w8.alloc (.cells (wq z) 41)):=ba
 generalize w8.alloc (.cells (wq z) 41)=w9 at hb9⊢;clear p0 p1 p2 p3 r0 r1 r2 r3 l1 l2;replace h18:=bk hb9 h18;replace h19:=bk hb9 h19;replace hb9:=hb8.trans (hb9.mono hb8.size);clear hb8;refine(h25 w9).mono ?_;rintro e wA ⟨rfl,hbA⟩;clear h25;replace h18:=bk hbA h18;replace h19:=bk hbA h19;replace hbA:=hb9.trans (hbA.mono hb9.size);clear hb9
 obtain⟨p0,p1,p2,p3⟩:=q4 h18;obtain⟨r0,r1,r2,r3⟩:=q4 h19;have l1:=aG h18;have l2:=aG h19
 have heq:∀V,(Op.equalIn 10000 41 (.agg (wq s)) (.agg (wq s))).run zQ.prog V=.ok true V:=fun V=>(rW s s hs hs V).trans sI
 have hq:=Ez
 cases cl
 .rcases hevs.out with⟨y,rfl,rfl⟩|rfl
  .go_wp2_with fail
   exact hΦs.out _ _ vn w3 wA ⟨rfl,rfl,rfl,rfl,rfl⟩ hQs.out hbA
  .clear heq;go_wp2_with fail
   exact hΦs.out _ _ vn w3 wA ⟨rfl,rfl,rfl,rfl,rfl⟩ hQs.out hbA
 .obtain rfl:=hcls.out rfl
  rcases hevs.out with⟨y,rfl,_⟩|rfl
  .go_wp2_with fail
   exact hΦs.out _ _ vn w3 wA ⟨rfl,rfl,rfl,rfl,rfl⟩ hQs.out hbA
  .go_wp2_with fail
   exact hΦs.out _ _ vn w3 wA ⟨rfl,rfl,rfl,rfl,rfl⟩ hQs.out hbA
theorem LS{P:Program}{Q:Exit->Act->World->Prop}{x y:Code}{a:Act}{w:World}(h:x.wp P (fun e a w=>e=.normal/\y.wp P Q a w) a w):(Code.seq x y).wp P Q a w:=
 wp_seq (wp_mono h fun _ _ _ ⟨e,h⟩=>by subst e;exact h)
theorem Tx:Sa=.seq (D6 0) (.seq (D6 1) (.seq (D6 2) (.seq (D6 3) (.seq (D6 4) (.seq (D6 5) (.seq (D6 6) (.seq (D6 7) (.seq (D6 8) (nL 9 Sa))))))))):=kR
noncomputable def Ue(c:Code):Code:=match na 4 with
 |.seq r (.block n (.loop (.seq h (.seq (.block m _) q))))=>.seq r (.block n (.loop (.seq h (.seq (.block m c) q))))
 |c=>c
theorem Ty:na 4=Ue Sa:=kR
theorem Uj{T:Array Value}(hz:T.size=118)(W:World)(Φ:Act->World->Prop)(hΦ:∀T',T'[4]?=some (.bool true)->Φ ⟨T',[]⟩ W):(na 5).wp zQ.prog (fun e a w=>e=.normal/\Φ a w) ⟨T,[]⟩ W:=by
 have hΦs:=US hΦ;clear hΦ;obtain⟨x,rfl⟩:=A6 T hz;dsimp only[na,uM,nL,B6,Ri,Tryz.f7,Option.getD_some]
 (go_wp2_with fail)
 exact hΦs.out _ rfl
theorem Uf{vo:SV}{pw:Nat}{I:Nat->Bool->World->Prop}(hn:vo.n<800000000000)(hround:∀T W i cl,eR T vo pw cl i->i<vo.n->I i cl W->Sa.wp zQ.prog (fun e a w=>e=.normal/\∃T' cl',a=⟨T',[]⟩/\eR T' vo pw cl' i/\I (i+1) cl' w) ⟨T,[]⟩ W){T:Array Value}{cl:Bool}(hz:T.size=118)(h1:T[1]?=some (.slice vo.a vo.n vo.c))(h6:T[6]?=some (pq pw 0))(h8:T[8]?=some (.bool cl))(W:World)(h0:I 0 cl W)(Φ:Act->World->Prop)(hΦ:∀T' cl w,T'.size=118->I vo.n cl w->Φ ⟨T',[]⟩ w):
  (na 4).wp zQ.prog (fun e a w=>e=.normal/\Φ a w) ⟨T,[]⟩ W:=by
 have hrs:=US hround;have hΦs:=US hΦ;have h0s:=US h0;clear hround hΦ h0;rw[Ty];generalize Sa=lb at hrs⊢;obtain⟨x,rfl⟩:=A6 T hz;rw[show x 1=_ from Option.some.inj h1,show x 6=_ from Option.some.inj h6,show x 8=_ from Option.some.inj h8];clear hz h1 h6 h8;dsimp only[Ue,na,uM,nL,B6,Ri,Tryz.f7,Option.getD_some]
 (go_wp2_with fail)
 refine wp_loop (fun a w=>∃T cl i,a=⟨T,[]⟩/\eR T vo pw cl i/\i<=vo.n/\I i cl w) (fun a _=>vo.n - (Go.RowKit.intOf (a.tmps.getD 11 undef)).toNat) ⟨_,cl,0,rfl,⟨rfl,rfl,rfl,rfl,rfl⟩,Nat.zero_le _,h0s.out⟩ ?_
 rintro a w ⟨T,cl,i,rfl,hL,hi,hI⟩;have hIs:=US hI;have hLs:=US hL;clear hI;obtain⟨x,rfl⟩:=A6 T hL.sz;rw[show x 1=_ from Option.some.inj hL.t1,show x 6=_ from Option.some.inj hL.t6,show x 8=_ from Option.some.inj hL.t8,show x 11=_ from Option.some.inj hL.t11];clear hL;by_cases hlt:i<vo.n
 .have hlt':(i:Int)<(vo.n:Int):=oM
  (go_wp2_with fail)
  rename_i hK;refine wp_mono (hrs.out _ w i cl ⟨rfl,rfl,rfl,rfl,rfl⟩ hlt hIs.out) ?_;rintro e a w' ⟨rfl,T',cl',rfl,hL',hI'⟩;refine hK _ _ ?_;have hIs':=US hI';clear hK hI' hLs hIs;obtain⟨x2,rfl⟩:=A6 T' hL'.sz;rw[show x2 1=_ from Option.some.inj hL'.t1,show x2 6=_ from Option.some.inj hL'.t6,show x2 8=_ from Option.some.inj hL'.t8,show x2 11=_ from Option.some.inj hL'.t11];clear hL'
  (go_wp2_with fail)
  refine⟨⟨_,cl',i+1,rfl,⟨rfl,rfl,rfl,rfl,congrArg some (by go_num)⟩,oM,hIs'.out⟩,?_⟩;simp[Go.RowKit.intOf];exact oM
 .have hlt':¬(i:Int)<(vo.n:Int):=oM
  (go_wp2_with fail)
  obtain rfl:i=vo.n:=by exact oM
  exact hΦs.out _ _ _ rfl hIs.out
structure nE (W:World) (v:SV) (os:List Od):Prop where
 n:v.n=os.length
 ok:∀o∈os,o.val<M/\-9223372036854775808<=o.src/\o.src<=9223372036854775807
 at':os=[]\/∃b f,v.a=some ⟨b,f,none⟩/\b<aB.b0/\∀(i:Nat) (o:Od),os[i]?=some o->cI W b (f+i*11) o.cs.toList
theorem nE.on{W u:World}{v:SV}{os:List Od}(h:nE W v os)(hc:∀p x,W.cell? p=some x->u.cell? p=some x):nE u v os:=
 ⟨h.n,h.ok,h.at'.imp id fun⟨b,f,h1,h2,h3⟩=>⟨b,f,h1,h2,fun i o ho j x hj=>hc _ _ (h3 i o ho j x hj)⟩⟩
theorem dD.px{B:Nat}{W W':World}{v:SV}{os:List (bF×SV)}{T:List Nat}(h:dD B W v os)(hp:Px T W W')(h1:52∉T)(h2:72∉T):dD B W' v os:=
 ⟨jX h.own hp h1,fun p hq=>jX (h.sl p hq) hp h2,h.HI,h.apart⟩
def wR(w' x:World)(l m d:Nat)(dp li:Addr)(c T:Nat)(cl:Bool)(v:SV)(B:Nat)(os:List (bF×SV))(ev:Value)(vn:SV):Prop:=
 ∃(cr2:Int) (A2:AM) (c2 T2 B2:Nat) (osn:List (bF×SV)),RP x l m d cr2 A2 dp li c2 T2 (cl=true)/\c2<=c+1030200/\Px TT w' x/\T2<=T/\(cl=true->T2=T)/\((∃y:Value,ev=.iface 90 y/\T2=T)\/ev=.nilIface)/\dD B2 x vn osn/\Td A2 (osn.map (·.1))/\Tb (osn.map (·.1))/\osn.length<400000000000/\dD B x v os
theorem nM{u W:World}{T:Array Value}{vo:SV}{pw l m d i:Nat}{dp li:Addr}{cr:Int}{A:AM}{c T0:Nat}{cl:Bool}{os:List Od}(hL:eR T vo pw cl i)(hi:i<vo.n)(hR:RP W l m d cr A dp li c T0 (cl=true))(hc:c<379000000000)(hp:Px TT u W)(hb1:aB.b1<=u.heap.size)(hpw:u.heap[pw]?=ob #[pq l 0] 87)(hO:nE u vo os)(hn:vo.n<800000000000){Z:Exit->Act->World->Prop}(hZ:∀T' cl' x cr2 A2 c2 T2,eR T' vo pw cl' i->RP x l m d cr2 A2 dp li c2 T2 (cl'=true)->c2<=c+1030200->Px TT u x->Z .normal ⟨T',[]⟩ x):
  Sa.wp zQ.prog Z ⟨T,[]⟩ W:=by
 have hin:i<os.length:=by rw[<-hO.n];exact hi
 obtain⟨o,ho⟩:∃o,os[i]?=some o:=⟨_,List.getElem?_eq_getElem hin⟩;obtain⟨hov,hr1,hr2⟩:=hO.ok o (List.mem_of_getElem? ho);obtain⟨b,f,hva,hbb,hco⟩:=hO.at'.resolve_left (by intro e;rw[e] at hin;simp at hin)
 have hlow:=hR.ge.low;have hpwW:=hp.row hpw dC
 have hcoW:cI W b (f+i*11) o.cs.toList:=fun j x hj=>by
  have h1:=hco i o ho j x hj;have h2:=World.block_lt_of_cell? u ⟨b,f+i*11+j,none⟩ h1;exact(GC (hp.low hbb h2) _).trans h1
 have hba:Below W.heap.size W (W.alloc (.cells o.cs 43)):=ba
 rw[Tx];refine Jj (o:=o) (S:=fun v os w=>Below (W.alloc (.cells o.cs 43)).heap.size (W.alloc (.cells o.cs 43)) w/\dD (W.alloc (.cells o.cs 43)).heap.size w v os/\Td A (os.map (·.1))/\Tb (os.map (·.1))/\os.length<400000000000) hL W hi hva hcoW ⟨hr1,hr2⟩ hlow hn
  ((Il (hR.below hba) (by exact oM) ((aJ (bk hba hpwW) 0).trans rfl)).mono fun e w' ⟨v,os,h1,h2,h3,h4,h5,h6⟩=>⟨v,os,h1,h2,h3,h4,h5,h6⟩)
  (fun v os w h=>⟨h.2.1.rl,by have:=h.2.2.2.2;exact oM,h.1⟩) (fun T3 v os2 w w' o' hS hM hval hdst hbo hpx hbW=>?_)
 refine Tu hM w' hbo (fun T4 hM4=>?_)
 generalize hcl:(cl&&decide (o'.dst≠0))=cl' at hM4;have hR3:RP w' l m d cr A dp li c T0 (cl'=true):=((((hR.below hba).below hS.1).px hpx dC dC).Ui (fun h=>by rw[<-hcl] at h;simp at h;exact h.1));have hds:cl'=true->o'.dst≠0:=fun h=>by rw[<-hcl] at h;simp at h;exact h.2
 have hpw':=bk hbW hpwW;have hpu:Px TT u w':=hp.trans (Px.aF hbW _);have hLs:=hS.2.1.px hpx dC dC
 refine Jk (o:=o') hM4 w' hbo (R:=fun ev x=>Ud w' l m d dp li c T0 (cl'=true) ev x) (Q:=fun ev vn x=>wR w' x l m d dp li c T0 cl' v (W.alloc (.cells o.cs 43)).heap.size os2 ev vn)
  (Um hR3 (Nat.le_trans hb1 hpu.size) (by exact oM) hpw' o' (by rw[hval];exact hov) hds) (fun ev x r hD=>?_) (fun ev vn x hQ=>?_) (fun T5 ev vn x x' hL5 hQ hb=>?_)
 .obtain⟨cr2,A2,c2,T2,k1,k2,k3,k4,k5,k6⟩:=hD;have hbx:Below x.heap.size x (x.alloc (.cells r 34)):=ba
  refine(Il (k1.below hbx) (by exact oM) ((aJ (bk hbx (k3.row hpw' dC)) 0).trans rfl)).mono ?_;rintro e y ⟨vn,osn,rfl,q2,q3,q4,q5,q6⟩;exact⟨vn,rfl,cr2,A2,c2,T2,_,osn,(k1.below hbx).below q2,k2,(k3.trans (Px.aF hbx _)).trans (Px.aF q2 _),k4,k5,k6,q3,q4,q5,q6,((hLs.px k3 dC dC).below hbx).below q2⟩
 .obtain⟨cr2,A2,c2,T2,B2,osn,k1,k2,k3,k4,k5,k6,k7,k8,k9,k10,k11⟩:=hQ;refine⟨T0,T2,hR.tq.lt,k4,k5,k6,fun w2 hb=>⟨?_,?_⟩⟩
  .have:=Uc (k11.below hb).rl (by have:=hS.2.2.2.2;exact oM) (fun p hp=>(hS.2.2.2.1 p.1 (List.mem_map_of_mem hp)).1);rw[Te hS.2.2.1 hR.tq.CL hR.tq.lt] at this;exact this
  .have:=Uc (k7.below hb).rl (by exact oM) (fun p hp=>(k9 p.1 (List.mem_map_of_mem hp)).1);rw[Te k8 k1.tq.CL k1.tq.lt] at this;exact this
 .obtain⟨cr2,A2,c2,T2,B2,osn,k1,k2,k3,_⟩:=hQ;exact hZ T5 cl' x' cr2 A2 c2 T2 hL5 (k1.below hb) k2 ((hpu.trans k3).trans (Px.aF hb _))
theorem uW{u:World}{T:Array Value}{vi vo:SV}{pw l m d:Nat}{dp li:Addr}{cr:Int}{A:AM}{T0:Nat}{ds:List (bF×SV)}{os:List Od}(hT:sW T vi vo pw)(hR:RP u l m d cr A dp li 5000 T0 (∀p∈ds,Wo p.1.code))(hb1:aB.b1<=u.heap.size)(hpw:u.heap[pw]?=ob #[pq l 0] 87)(hI:ds=[]\/∃b o,vi.a=some ⟨b,o,none⟩/\nS u b o ds)(hn:vi.n=ds.length)(hs:gM (ds.map (·.1)))(hO:nE u vo os)(hbd:os.length<=200000)(Φ:Act->World->Prop)(hΦ:∀T' W,T'[4]?=some (.bool true)->Px TT u W->Φ ⟨T',[]⟩ W):
  kV zQ.prog (fun a' v'=>a'.defers=[]/\Φ a' v') [na 0,na 1,na 2,na 3,na 4,na 5] ⟨T,[]⟩ u:=by
 have hon:=hO.n
 refine Oe hT u hI hn (by have:=hs.1;simpa using this) (fun p hp=>by have:=hs.2.1 p.1 (List.mem_map_of_mem hp);have h5:=this.2.2.2.2.1;exact oM) (fun a w=>kV zQ.prog (fun a' v'=>a'.defers=[]/\Φ a' v') [na 4,na 5] a w) (fun T1 cl z1 z2 z3 z4 hcl=>?_)
 refine Uf (I:=fun i cl w=>∃cr A c T,RP w l m d cr A dp li c T (cl=true)/\c<=5000+i*1030200/\Px TT u w) (by exact oM) (fun T2 W i cl hL hi ⟨cr2,A2,c2,T2',k1,k2,k3⟩=>?_) z1 z2 z3 z4 u ⟨cr,A,5000,T0,hR.Ui hcl,by exact oM,Px.refl _ _⟩ (fun a w=>kV zQ.prog (fun a' v'=>a'.defers=[]/\Φ a' v') [na 5] a w) (fun T3 cl3 w3 hz ⟨_,_,_,_,_,_,hp⟩=>Uj hz w3 (fun a w=>a.defers=[]/\Φ a w) (fun T4 h4=>⟨rfl,hΦ T4 w3 h4 hp⟩))
 exact nM hL hi k1 (by exact oM) k3 hb1 hpw hO (by exact oM) (fun T' cl' x cr3 A3 c3 T3 q1 q2 q3 q4=>⟨rfl,T',cl',rfl,q1,cr3,A3,c3,T3,q2,by exact oM,q4⟩)
end
section
open Go.Conc Go.Walk Go.Phase Go.Conc.Lib Go.ConcR.Gen Go.ConcN.Gen Go.Lift
open Go.ConcN (WgLive Has RW DWs AtR0 PayAt)
open Go.ConcR (KK WgAt stA smA rd wr mk Payload)
section
variable [aB]
noncomputable def Sg:Code:=nL 1 Ri
noncomputable def Bn:Code:=nL 2 Ri
noncomputable def wa:Array Oper:=match Sg with
 |.seq (.region _ o _) _=>o
 |_=>#[]
noncomputable def pn:Array Oper:=match Bn with
 |.seq (.region _ o _) _=>o
 |_=>#[]
noncomputable def Rx:Code:=nL 1 B6
noncomputable def R7:Code:=nL 2 B6
noncomputable def S7:Code:=uM (na 1)
noncomputable def Sb:Code:=match na 1 with
 |.seq _ (.cond _ (.seq c _) _)=>c
 |_=>.skip
theorem Sj:Bn=.seq (.region 2 pn false) B6:=kR
theorem Sy:B6=chain [na 0,na 1,na 2,na 3,na 4,na 5] .ret:=kR
theorem Sk:B6=chain [na 0] Rx:=kR
theorem Sl:Rx=.seq (.seq S7 (.cond (.tmp 30) (.seq Sb .ret) .skip)) R7:=kR
theorem Tf:bQ Tryz.prog Bn=true:=kR
theorem T1:bQ Tryz.prog B6=true:=kR
theorem Tg:bQ Tryz.prog (chain [na 0,na 1,na 2,na 3,na 4,na 5] .ret)=true:=kR
theorem Th:bQ Tryz.prog (chain [na 0] Rx)=true:=kR
theorem Ti:bQ Tryz.prog Rx=true:=kR
theorem Sq:bQ Tryz.prog R7=true:=kR
theorem T4:bQ Tryz.prog S7=true:=kR
theorem T6:bQ Tryz.prog (.cond (.tmp 30) (.seq Sb .ret) .skip)=true:=kR
theorem T9:bQ Tryz.prog Sb=true:=kR
theorem Tj:jS Tryz.prog wa=true:=kR
theorem Tk:jS Tryz.prog pn=true:=kR
structure kI (T:Array Value) (vi vo:SV):Prop where
 sz:T.size=118
 t0:T[0]?=some (.slice vi.a vi.n vi.c)
 t1:T[1]?=some (.slice vo.a vo.n vo.c)
structure nC (T:Array Value) (y:Value):Prop where
 sz:T.size=118
 t5:T[5]?=some (.bool true)
 t6:T[6]?=some (.pointer none)
 t7:T[7]?=some (.iface 90 y)
theorem Kh{T:Array Value}{y:Value}(hT:nC T y)(u:World)(Φ:Act->World->Prop)(hΦ:∀T',nC T' y->Φ ⟨T',[]⟩ u):
  (na 0).wp zQ.prog (fun e a w=>e=.normal/\a.defers=[]/\Φ a w) ⟨T,[]⟩ u:=by
 have hΦs:=US hΦ;clear hΦ;obtain⟨x,rfl⟩:=A6 T hT.sz;rw[show x 5=_ from Option.some.inj hT.t5,show x 6=_ from Option.some.inj hT.t6,show x 7=_ from Option.some.inj hT.t7];clear hT;dsimp only[na,B6,Ri,uM,nL,Tryz.f7,Option.getD_some]
 (go_wp2_with fail)
 exact hΦs.out _ ⟨rfl,rfl,rfl,rfl⟩
theorem Ki{T:Array Value}{y:Value}(hT:nC T y)(u:World)(Φ:Act->World->Prop)(hΦ:∀T',nC T' y->T'[30]?=some (.bool true)->Φ ⟨T',[]⟩ u):
  S7.wp zQ.prog (fun e a w=>e=.normal/\a.defers=[]/\Φ a w) ⟨T,[]⟩ u:=by
 have hΦs:=US hΦ;clear hΦ;obtain⟨x,rfl⟩:=A6 T hT.sz;rw[show x 5=_ from Option.some.inj hT.t5,show x 6=_ from Option.some.inj hT.t6,show x 7=_ from Option.some.inj hT.t7];clear hT;dsimp only[S7,na,B6,Ri,uM,nL,Tryz.f7,Option.getD_some]
 (go_wp2_with fail)
 exact hΦs.out _ ⟨rfl,rfl,rfl,rfl⟩ rfl
theorem Kj{T:Array Value}{y:Value}(hT:nC T y)(u:World)(Φ:Act->World->Prop)(hΦ:∀T',T'[4]?=some (.bool true)->Φ ⟨T',[]⟩ u):
  Sb.wp zQ.prog (fun e a w=>e=.normal/\a.defers=[]/\Φ a w) ⟨T,[]⟩ u:=by
 have hΦs:=US hΦ;clear hΦ;obtain⟨x,rfl⟩:=A6 T hT.sz;rw[show x 5=_ from Option.some.inj hT.t5,show x 6=_ from Option.some.inj hT.t6,show x 7=_ from Option.some.inj hT.t7];clear hT;have hq:=Ez;dsimp only[Sb,na,B6,Ri,uM,nL,Tryz.f7,Option.getD_some]
 (go_wp2_with fail)
 exact hΦs.out _ rfl
theorem Uk{h0:Array Obj}{cs:List Frame}{vi:SV}{vo:SV}{T12:Array Value}(hT:T12=Array.replicate 76 undef){T:Array Value}(hB:kI T vi vo):cO Tryz.prog true AtRel kD (fun g w=>(∃T',g=G ((base 12).at ⟨T12,[]⟩ [.code (Tryz.f12.body.getD .skip)]) (((base 7).at ⟨T',[]⟩ (.inRegion wa [0,1]::[.code Bn]))::cs)/\kI T' vi vo)/\w.heap=h0) (fun w=>w.heap=h0) 20
  (G ((base 7).at ⟨T,[]⟩ [.code (Tryz.f7.body.getD .skip)]) cs):=by
 have E:=nK h0;have hTs:=US hT;clear hT;obtain⟨bd,hbd⟩:∃c,c=Bn:=⟨_,rfl⟩;obtain⟨bc,hbc⟩:∃c,c=Tryz.f12.body.getD .skip:=⟨_,rfl⟩;rw[<-hbd,<-hbc];have hnb:Tryz.f7.body.getD .skip=.seq (uM Ri) (.seq (uM Sg) Bn):=kR
 rw[hnb,<-hbd];clear hnb;simp only[wa,Sg,Ri,uM,nL,Tryz.f7,Option.getD_some];clear hbd;obtain⟨x,rfl⟩:=A6 T hB.sz;rw[show x 0=_ from Option.some.inj hB.t0,show x 1=_ from Option.some.inj hB.t1];clear hB;refine bU E ?_;refine bD E ?_;refine bV E rfl rfl (by k_ne) (fun w hF K hK=>?_);go_simp;refine hK _ (by simp[go_sem, *]) ?_;clear hK K hF w;refine aP E ?_;refine bU E ?_;refine bI E ?_;have hnm:(Tryz.f12.name== "runtime.NumGoroutine")=false:=kR
 have hbody:Tryz.f12.body=some bc:=by rw[hbc];kernel_rfl
 refine eY E rfl rfl (by k_ne) rfl Tryz.func12 hnm hbody ?_;rw[Tryz.ntmps12];clear hnm hbody hbc;have hz:∀f:Operand->Value,Array.map f #[]++Array.replicate (76 - (Array.map f #[]).size) undef=T12:=fun f=>by rw[hTs.out];simp
 rw[hz];exact cD E (fun w hw=>⟨⟨_,rfl,⟨rfl,rfl,rfl⟩⟩,hw⟩)
theorem Tp{T:Array Value}:after (base 7) ⟨T,[]⟩ wa 0 [1] [.code Bn] (.bool true)=(base 7).at ⟨T.setIfInBounds 21 (.bool true),[]⟩ (.inRegion wa [1]::[.code Bn]):=kR
theorem Ul{h0:Array Obj}{cs:List Frame}{vi:SV}{vo:SV}{T:Array Value}(hT:kI T vi vo):cO Tryz.prog true AtRel kD (fun g w=>(∃T',g=G ((base 16).at ⟨#[.slice vi.a vi.n vi.c]++Array.replicate 12 undef,[]⟩ [.code (Tryz.f16.body.getD .skip)]) (((base 7).at ⟨T',[]⟩ (.inRegion pn [1,2,3,4,5,6]::[.code B6]))::cs)/\kI T' vi vo/\T'[5]?=some (.bool true))/\w.heap=h0) (fun w=>w.heap=h0) 30
  (G ((base 7).at ⟨T.setIfInBounds 21 (.bool true),[]⟩ (.inRegion wa [1]::[.code Bn])) cs):=by
 have E:=nK h0;rw[Sj];obtain⟨bd,hbd⟩:∃c,c=B6:=⟨_,rfl⟩;obtain⟨bc,hbc⟩:∃c,c=Tryz.f16.body.getD .skip:=⟨_,rfl⟩;rw[<-hbd,<-hbc];simp only[wa,pn,Sg,Bn,nL,Ri,Tryz.f7,Option.getD_some];clear hbd;obtain⟨x,rfl⟩:=A6 T hT.sz;rw[show x 0=_ from Option.some.inj hT.t0,show x 1=_ from Option.some.inj hT.t1];clear hT;simp only[List.setIfInBounds_toArray,List.set_cons_zero,List.set_cons_succ];refine bV E rfl rfl (by k_ne) (fun w hF K hK=>?_);go_simp;refine hK _ (by simp[go_sem, *]) ?_;clear hK K hF w;refine aP E ?_;refine bU E ?_;refine bL E ?_;refine bV E rfl rfl (by k_ne) (fun w hF K hK=>?_);go_simp;refine hK _ (by simp[go_sem, *]) ?_;clear hK K hF w;have hnm:(Tryz.f16.name== "runtime.NumGoroutine")=false:=kR
 have hbody:Tryz.f16.body=some bc:=by rw[hbc];kernel_rfl
 refine eY E rfl rfl (by k_ne) rfl Tryz.func16 hnm hbody ?_;rw[Tryz.ntmps16];clear hnm hbody hbc
 walk_nrm
 exact cD E (fun w hw=>⟨⟨_,rfl,⟨rfl,rfl,rfl⟩,rfl⟩,hw⟩)
theorem Tr{T:Array Value}{val:Value}:after (base 7) ⟨T,[]⟩ pn 1 [2,3,4,5,6] [.code B6] val=(base 7).at ⟨T.setIfInBounds 24 val,[]⟩ (.inRegion pn [2,3,4,5,6]::[.code B6]):=kR
theorem Ug{h0:Array Obj}{cs:List Frame}{vi:SV}{vo:SV}{T:Array Value}{v1 v2:Value}(hT:kI T vi vo)(h5:T[5]?=some (.bool true)):cO Tryz.prog true AtRel kD (fun g w=>(∃T',g=G ((base 7).at ⟨T',[]⟩ [.code B6]) cs/\kI T' vi vo/\T'[5]?=some (.bool true)/\T'[6]?=some v1/\T'[7]?=some v2)/\w.heap=h0) (fun w=>w.heap=h0) 30
  (G ((base 7).at ⟨T.setIfInBounds 24 (.tuple #[v1,v2]),[]⟩ (.inRegion pn [2,3,4,5,6]::[.code B6])) cs):=by
 have E:=nK h0;obtain⟨bd,hbd⟩:∃c,c=B6:=⟨_,rfl⟩;rw[<-hbd];simp only[pn,Bn,nL,Ri,Tryz.f7,Option.getD_some];clear hbd;obtain⟨x,rfl⟩:=A6 T hT.sz;have e0:x 0=_:=Option.some.inj hT.t0;have e1:x 1=_:=Option.some.inj hT.t1;have e5:x 5=_:=Option.some.inj h5;clear hT h5;rw[e0,e1,e5];clear e0 e1 e5;simp only[List.setIfInBounds_toArray,List.set_cons_zero,List.set_cons_succ];iterate 5 (refine bV E rfl rfl (by k_ne) (fun w hF K hK=>?_);go_simp;refine hK _ (by simp[go_sem, *]) ?_;clear hK K hF w)
 refine aP E ?_;exact cD E (fun w hw=>⟨⟨_,rfl,⟨rfl,rfl,rfl⟩,rfl,rfl,rfl⟩,hw⟩)
theorem l4{T:Array Value}{b:Bool}{k:Nat}(h:T[k]?=some (.bool b)):Act.eval ⟨T,[]⟩ (.tmp k)=.bool b:=by simp[Act.eval,h]
theorem Pv{h0:Array Obj}{cs:List Frame}{T:Array Value}{k:List Item}(hT:T[4]?=some (.bool true)):cO Tryz.prog true AtRel kD (fun g w=>(∃(T:Array Value) (todo:List Item),g=G {(base 7).at ⟨T,[]⟩ todo with mode:=.returning} cs/\T[4]?=some (.bool true))/\w.heap=h0) (fun w=>w.heap=h0) 5
  (G ((base 7).at ⟨T,[]⟩ (.code .ret::k)) cs):=by
 have E:=nK h0;exact eI E (cD E (fun w hw=>⟨⟨_,_,rfl,hT⟩,hw⟩))
theorem Qr{h0:Array Obj}{cs:List Frame}{T:Array Value}:cO Tryz.prog true AtRel kD (fun g w=>g=G ((base 7).at ⟨T,[]⟩ [.code S7,.code (.cond (.tmp 30) (.seq Sb .ret) .skip),.code R7]) cs/\w.heap=h0) (fun w=>w.heap=h0) 5
  (G ((base 7).at ⟨T,[]⟩ [.code Rx]) cs):=by
 have E:=nK h0;rw[Sl];exact bU E (bU E (cD E (fun w hw=>⟨rfl,hw⟩)))
theorem Qs{h0:Array Obj}{cs:List Frame}{T:Array Value}{k:List Item}(h:T[30]?=some (.bool true)):cO Tryz.prog true AtRel kD (fun g w=>g=G ((base 7).at ⟨T,[]⟩ (.code Sb::.code .ret::k)) cs/\w.heap=h0) (fun w=>w.heap=h0) 5
  (G ((base 7).at ⟨T,[]⟩ (.code (.cond (.tmp 30) (.seq Sb .ret) .skip)::k)) cs):=by
 have E:=nK h0;exact bM E (l4 h) (bU E (cD E (fun w hw=>⟨rfl,hw⟩)))
theorem Ge.kept{W W':World}{dp li:Addr}(h:Ge W dp li)(hs:W.heap.size<=W'.heap.size)(hk:∀b c t f,b<aB.b0->W.heap[b]?=some (.cells c t f)->W'.heap[b]?=some (.cells c t f)):Ge W' dp li:=by
 have row:∀b x,b<aB.b0->W.cell? ⟨b,0,none⟩=some x->W'.cell? ⟨b,0,none⟩=some x:=fun b x hb hx=>by
  unfold World.cell? at hx;cases ho:W.heap[b]? with
  |none=>rw[ho] at hx;cases hx
  |some o=>
   cases o with
   |cells c e f=>exact(World.cell?_of_block (a:=⟨b,0,none⟩) ((hk b c e f hb ho).trans ho.symm)).trans (by unfold World.cell?;exact hx)
   |_=>rw[ho] at hx;cases hx
 have l0:=h.lo;refine⟨h.lo,Nat.le_trans h.low hs,row 0 _ oM h.de,row 3 _ oM h.le,row 4 _ oM h.et,fun g hg=>?_,let⟨c,t,e⟩:=h.od;⟨c,t,hk _ _ _ _ l0.2.1 e⟩,let⟨c,t,e⟩:=h.ol;⟨c,t,hk _ _ _ _ l0.2.2 e⟩,h.ne⟩;obtain⟨e,h1,h2,h3,h4,c,t,h5⟩:=h.er g hg;have:g<=10:=by simp at hg;exact oM
 exact⟨e,row g _ oM h1,h2,h3,h4,c,t,hk _ _ _ _ h2 h5⟩
theorem PY{W w v:World}{D:Nat->Prop}(hdk:Dk aB.b0 D w)(hrel:Rel (cM D) w v)(hkw:∀b,b<aB.b0->w.heap[b]?=W.heap[b]?){b:Nat}{c:Array Value}{t:TypeId}{f:Nat×Nat}(hb:b<aB.b0)(hc:W.heap[b]?=some (.cells c t f)):v.heap[b]?=some (.cells c t f):=by
 refine HA hrel ((hkw b hb).trans hc) (fun hd=>?_);rcases hdk b hd with⟨h1,_⟩| ⟨_,o,ho,hf,_⟩
 .omega
 .rw[hkw b hb,hc] at ho;cases ho;exact hf trivial
theorem uE.on{W v:World}{a:Option Addr}{ds:List (bF×SV)}(h:uE W a ds)(hc:∀p x,W.cell? p=some x->v.cell? p=some x):uE v a ds:=
 ⟨h.acc.imp id fun⟨b,o,h1,h2⟩=>⟨b,o,h1,fun i p hp j x hj=>hc _ _ (h2 i p hp j x hj)⟩,fun p hp=>⟨(h.sl p hp).1,(h.sl p hp).2.imp id fun⟨b,o,h1,h2⟩=>⟨b,o,h1,fun i q hq j x hj=>hc _ _ (h2 i q hq j x hj)⟩⟩,h.cn,h.num,h.key,h.len⟩
def E0(W:World)(aa:Option Addr)(n:Nat):Prop:=n=0\/∃b off X e f,aa=some ⟨b,off,none⟩/\W.heap[b]?=some (.cells X e f)/\e≠4/\off+n*8<=X.size
end
section
variable [aB]
theorem Px.bz{T:List Nat}{u v:World}(h:Px T u v)(hb:aB.b0<=u.heap.size):Bz u v:=by
 refine⟨⟨h.os,h.tape,h.output,h.size,fun k hk=>h.low hk oM⟩,fun b e he hu=>?_⟩;rcases h.block b (aG hu) with e1| ⟨_,_,e1⟩
 .exact⟨_,_,e1.trans hu⟩
 .rw[hu] at e1;change kd v.heap[b]?=e at e1;cases hv:v.heap[b]? with
  |none=>rw[hv] at e1;change 2000=e at e1;subst e1;exact absurd he dC
  |some o=>
   rw[hv] at e1;cases o with
   |cells c t f=>change t=e at e1;subst e1;exact⟨c,f,rfl⟩
   |map=>change 1000=e at e1;subst e1;exact absurd he dC
   |mapIter=>change 1001=e at e1;subst e1;exact absurd he dC
   |_=>change 2000=e at e1;subst e1;exact absurd he dC
theorem Ru{W w v:World}{D:Nat->Prop}(hB0:aB.b0=W.heap.size)(hdk:Dk aB.b0 D w)(hrel:Rel (cM D) w v)(hkw:∀b,b<aB.b0->w.heap[b]?=W.heap[b]?){p:Addr}{x:Value}(hp:W.cell? p=some x):v.cell? p=some x:=by
 obtain⟨pb,po,ps⟩:=p;cases hob:W.heap[pb]? with
 |none=>unfold World.cell? at hp;rw[hob] at hp;cases hp
 |some ob=>
  cases ob with
  |cells c e f=>
   have:=PY hdk hrel hkw (by rw[hB0];exact aG hob) hob;exact(World.cell?_of_block (a:=⟨pb,po,ps⟩) (this.trans hob.symm)).trans hp
  |_=>unfold World.cell? at hp;rw[hob] at hp;cases hp
theorem jL(W:World):Bz W W:=⟨Below.refl _ _,fun _ _ _ h=>⟨_,_,h⟩⟩
theorem Rk{Shun:Loc->Prop}{D:Nat->Prop}{ds:List (bF×SV)}{os:List Od}{vi vo:SV}{k0:Nat}{dp li:Addr}{w v:World}{m:Machine}{t:Trace}(hB0:aB.b0=w.heap.size)(hB10:aB.b1=w.heap.size)(hge:Ge w dp li)(hrel:Rel (cM D) w v)(hdk0:∀b,D b->b<w.heap.size/\∃o,w.heap[b]?=some o/\¬kF (cM D) o/\¬eZ o)(hhid:jU (cM D) Shun)(ho:k0+200<2147483647)(hI:uE w vi.a ds)(hn:vi.n=ds.length)(hlie:E0 w vi.a ds.length)(hr0:∃c t f,w.heap[0]?=some (.cells c t f)/\t≠4/\0<c.size)(hO:nE w vo os)(hbd:os.length<=200000)(hst:fB Tryz.prog Shun w.heap.size (k0+1) (G ((base 7).at ⟨#[.slice vi.a vi.n vi.c,.slice vo.a vo.n vo.c]++Array.replicate 116 undef,[]⟩ [.code (Tryz.f7.body.getD .skip)]) []) w m t):
  Runs Tryz.prog m t fun m' t'=>∃(w':World) (mH:Loc->Prop) (N:Nat) (T:Array Value) (todo:List Item),(∀b,b<aB.b0->w'.heap[b]?=w.heap[b]?)/\(w'.os=w.os/\w'.output=w.output)/\w.heap.size<=w'.heap.size/\T[4]?=some (.bool true)/\
   fB Tryz.prog mH w'.heap.size N (G {(base 7).at ⟨T,[]⟩ todo with mode:=.returning} []) w' m' t':=by
 have hB:aB.b0<=w.heap.size:=Nat.le_of_eq hB0;have hB1:aB.b1<=w.heap.size:=Nat.le_of_eq hB10;have hdk:Dk aB.b0 D w:=fun b hb=>.inr (by rw[hB0];exact hdk0 b hb);obtain⟨T0,hT0,hA0⟩:∃T0,T0=#[.slice vi.a vi.n vi.c,.slice vo.a vo.n vo.c]++Array.replicate 116 undef/\kI T0 vi vo:=⟨_,rfl,⟨sI,sI,sI⟩⟩;rw[<-hT0] at hst;clear hT0;obtain⟨T12,hT12⟩:∃T,T=Array.replicate 76 undef:=⟨_,rfl⟩;refine(dR (Uk (h0:=w.heap) hT12 hA0) rfl hst).then fun m3 t3 h3=>?_;clear hst;obtain⟨g3,w3,⟨⟨T2,rfl,hT2⟩,hh3⟩,ho3,hst3⟩:=h3;have hon3:=dQ (w':=w3) hdk hrel hhid hh3 ho3;have hsz3:w3.heap.size=w.heap.size:=by rw[hh3]
 rw[<-hsz3] at hst3;have hkn:=PW (T12:=T12) hT12 (b₀:=base 7) (a₀:=⟨T2,[]⟩) (ops0:=wa) (i₀:=0) (rest0:=[1]) (k₀:=[.code Bn]) (Nat.le_trans hB hon3.up) hon3.rel hon3.dk hhid (by exact oM) rfl rfl Tj (fun x hx=>by rw[List.mem_singleton.1 hx];exact Tf) hst3;refine hkn.then fun m4 t4 h4=>?_;clear hst3 hT12 hkn;obtain⟨w4,v4,Shun4,D4,k4,hon4',hhid4,hk4,hst4⟩:=h4;have hon4:=hon3.toSO.trans hon4'
 rw[Tp] at hst4;refine(dR (Ul (h0:=w4.heap) hT2) rfl hst4).then fun m5 t5 h5=>?_;clear hst4;obtain⟨g5,w5,⟨⟨T5,rfl,hT5,ht5⟩,hh5⟩,ho5,hst5⟩:=h5;have hon5:=hon4.trans (dQ (w':=w5) hon4.dk hon4.rel hhid4 hh5 ho5).toSO;have hsz5:w5.heap.size=w4.heap.size:=by rw[hh5]
 rw[<-hsz5,hn] at hst5;have hI5:uE v4 vi.a ds:=hI.on fun p x hp=>Ru hB0 hon5.dk hon5.rel hon5.kw hp
 obtain⟨qa,off,hq1,hq2,hq3,hq4,hq5⟩:∃(qa:Rw) (off:Nat),v4.heap[qa.b]?=some (.cells qa.x qa.e qa.f)/\qa.e≠4/\(ds=[]\/vi.a=some ⟨qa.b,off,none⟩)/\0<qa.x.size/\off+ds.length*8<=qa.x.size:=by
  by_cases hd:ds=[]
  .obtain⟨c,t,f,r1,r2,r3⟩:=hr0;exact⟨⟨0,c,t,f⟩,0,PY hon5.dk hon5.rel hon5.kw (by rw[hB0];exact aG r1) r1,r2,.inl hd,r3,by rw[hd];simp⟩
  .rcases hlie with h0| ⟨b,off,X,e,f,q1,q2,q3,q4⟩
   .exact absurd (List.eq_nil_of_length_eq_zero h0) hd
   .have hpos:0<ds.length:=List.length_pos_iff.2 hd;exact⟨⟨b,X,e,f⟩,off,PY hon5.dk hon5.rel hon5.kw (by rw[hB0];exact aG q2) q2,q3,.inr q1,by show 0<X.size;exact oM,q4⟩
 refine(EE (ds:=ds) (cap:=vi.c) (o:=k4) (b₀:=base 7) (a₀:=⟨T5,[]⟩) (ops0:=pn) (i₀:=1) (rest0:=[2,3,4,5,6]) (k₀:=[.code B6]) (Nat.le_trans hB hon5.up) (by rw[hon5.rel.size];exact Nat.le_trans hB hon5.up) hon5.rel hon5.dk hhid4 hq1 hq2 hq3 hq4 hq5 hI5 (by exact oM) rfl rfl Tk (fun x hx=>by rw[List.mem_singleton.1 hx];exact T1) hst5).then fun m6 t6 h6=>?_;clear hst5;obtain⟨w6,v6,Shun6,D6',k6,val6,hon6',hres6,hk6,hst6⟩:=h6;have hon6:=hon5.trans hon6'.toSO;have hhid6:=hon6'.hid;rw[Tr] at hst6;rcases hres6 with⟨hso,pw,pl,L,rfl,hpw,hmade,_,_⟩| ⟨_,rfl⟩
 ·
  refine(dR (Ug (h0:=w6.heap) hT5 ht5) rfl hst6).then fun m7 t7 h7=>?_;clear hst6;obtain⟨g7,w7,⟨⟨T7,rfl,z0,z5,z6,z7⟩,hh7⟩,ho7,hst7⟩:=h7;have hon7':=dQ (w':=w7) hon6.dk hon6.rel hhid6 hh7 ho7;have hon7:=hon6.trans hon7'.toSO;have hsz7:w7.heap.size=w6.heap.size:=by rw[hh7]
  rw[<-hsz7,Sy] at hst7;have hwill8:=qW (D:=D6') (l:=[na 0,na 1,na 2,na 3,na 4,na 5]) (c:=.ret) (b:=base 7) (k:=[]) (cw:=[]) (w:=w7) (a:=⟨T7,[]⟩)
   (Φ:=fun a' v'=>∃u T,Rel (cM D6') w7 u/\a'=⟨T,[]⟩/\T[4]?=some (.bool true)/\Px TT u v') rfl rfl Tg rfl (fun x hx=>by cases hx) ⟨_,hon7.rel⟩
   (fun u hu=>by
    have htu:=mZ hon7.dk hon7.rel hu;have hgu:Ge u dp li:=hge.kept (by rw[hu.size];exact hon7.up) (fun b c t f hb hc=>PY hon7.dk hu hon7.kw hb hc);obtain⟨mm,dd,T0,hR⟩:=lx (hmade.tw htu) hso hgu;have hcu:∀p x,w.cell? p=some x->u.cell? p=some x:=fun p x hp=>Ru hB0 hon7.dk hu hon7.kw hp
    exact uW ⟨z0.sz,z0.t0,z0.t1,z5,z6⟩ hR (by rw[hu.size];exact Nat.le_trans hB1 hon7.up) (htu.obj _ _ hpw (.inl trivial)) (hI.on hcu).acc hn hso (hO.on hcu) hbd _ (fun T' W' h4 hP=>⟨u,T',hu,rfl,h4,hP⟩))
  refine(eM hhid6 hwill8 hst7).then fun m8 t8 h8=>?_;clear hst7 hwill8;obtain⟨g8,w8,⟨a8,v8,rfl,hr8,hs8,_,u8,T8,hu8,rfl,hT8,hP8⟩,hst8⟩:=h8;have hbz8:=hP8.bz (by rw[hu8.size];exact Nat.le_trans hB hon7.up);have hon8:=hon7.trans (kE hon7.dk hu8 hr8 hs8 (Nat.le_trans hB hon7.up) hbz8.toBelow hbz8.kz);refine(dR (Pv (h0:=w8.heap) hT8) rfl hst8).mono fun m9 t9 h9=>?_;obtain⟨g9,w9,⟨⟨T3,todo,rfl,hT3⟩,hh9⟩,ho9,hst9⟩:=h9;have hon9:=hon8.trans (dQ (w':=w9) hon8.dk hon8.rel hhid6 hh9 ho9).toSO;have hsz9:w9.heap.size=w8.heap.size:=by rw[hh9]
  rw[<-hsz9] at hst9;exact⟨w9,_,_,T3,todo,hon9.kw,hon9.os,hon9.up,hT3,hst9⟩
 ·
  refine(dR (Ug (h0:=w6.heap) hT5 ht5) rfl hst6).then fun m7 t7 h7=>?_;clear hst6;obtain⟨g7,w7,⟨⟨T7,rfl,z0,z5,z6,z7⟩,hh7⟩,ho7,hst7⟩:=h7;have hon7:=hon6.trans (dQ (w':=w7) hon6.dk hon6.rel hhid6 hh7 ho7).toSO;have hsz7:w7.heap.size=w6.heap.size:=by rw[hh7]
  rw[<-hsz7,Sk] at hst7;have hwill8:=qW (D:=D6') (l:=[na 0]) (c:=Rx) (b:=base 7) (k:=[]) (cw:=[]) (w:=w7) (a:=⟨T7,[]⟩)
   (Φ:=fun a' v'=>∃T,Rel (cM D6') w7 v'/\a'=⟨T,[]⟩/\nC T (.agg #[.int .i64 1])) rfl rfl Th Ti (fun x hx=>by cases hx) ⟨_,hon7.rel⟩
   (fun u hu=>Kh ⟨z0.sz,z5,z6,z7⟩ u _ (fun T' hT'=>⟨T',hu,rfl,hT'⟩))
  refine(eM hhid6 hwill8 hst7).then fun m8 t8 h8=>?_;clear hst7 hwill8;obtain⟨g8,w8,⟨a8,v8,rfl,hr8,hs8,_,T8,hu8,rfl,hT8⟩,hst8⟩:=h8;have hon8:=hon7.trans (kE hon7.dk hu8 hr8 hs8 (Nat.le_trans hB hon7.up) (jL v8).toBelow (jL v8).kz);refine(dR (Qr (h0:=w8.heap)) rfl hst8).then fun m9 t9 h9=>?_;clear hst8;obtain⟨g9,w9,⟨rfl,hh9⟩,ho9,hst9⟩:=h9;have hon9:=hon8.trans (dQ (w':=w9) hon8.dk hon8.rel hhid6 hh9 ho9).toSO;have hsz9:w9.heap.size=w8.heap.size:=by rw[hh9]
  rw[<-hsz9] at hst9;have hwill10:=mE (D:=D6') (c:=S7) (b:=base 7) (k:=[.code (.cond (.tmp 30) (.seq Sb .ret) .skip),.code R7]) (cw:=[]) (w:=w9) (a:=⟨T8,[]⟩)
   (Φ:=fun a' v'=>∃T,Rel (cM D6') w9 v'/\a'=⟨T,[]⟩/\nC T (.agg #[.int .i64 1])/\T[30]?=some (.bool true)) rfl rfl T4 (fun x hx=>by
    simp only[List.mem_cons,List.not_mem_nil,or_false] at hx;rcases hx with rfl|rfl
    .exact T6
    .exact Sq) ⟨_,hon9.rel⟩
   (fun u hu=>Ki hT8 u _ (fun T' hT' h30=>⟨T',hu,rfl,hT',h30⟩))
  refine(eM hhid6 hwill10 hst9).then fun m10 t10 h10=>?_;clear hst9 hwill10;obtain⟨g10,w10,⟨a10,v10,rfl,hr10,hs10,_,T10,hu10,rfl,hT10,h30⟩,hst10⟩:=h10;have hon10:=hon9.trans (kE hon9.dk hu10 hr10 hs10 (Nat.le_trans hB hon9.up) (jL v10).toBelow (jL v10).kz);refine(dR (Qs (h0:=w10.heap) h30) rfl hst10).then fun m11 t11 h11=>?_;clear hst10;obtain⟨g11,w11,⟨rfl,hh11⟩,ho11,hst11⟩:=h11;have hon11:=hon10.trans (dQ (w':=w11) hon10.dk hon10.rel hhid6 hh11 ho11).toSO;have hsz11:w11.heap.size=w10.heap.size:=by rw[hh11]
  rw[<-hsz11] at hst11;have hwill12:=mE (D:=D6') (c:=Sb) (b:=base 7) (k:=[.code .ret,.code R7]) (cw:=[]) (w:=w11) (a:=⟨T10,[]⟩)
   (Φ:=fun a' v'=>∃T,Rel (cM D6') w11 v'/\a'=⟨T,[]⟩/\T[4]?=some (.bool true)) rfl rfl T9 (fun x hx=>by
    simp only[List.mem_cons,List.not_mem_nil,or_false] at hx;rcases hx with rfl|rfl
    .rfl
    .exact Sq) ⟨_,hon11.rel⟩
   (fun u hu=>Kj hT10 u _ (fun T' h4=>⟨T',hu,rfl,h4⟩))
  refine(eM hhid6 hwill12 hst11).then fun m12 t12 h12=>?_;clear hst11 hwill12;obtain⟨g12,w12,⟨a12,v12,rfl,hr12,hs12,_,T12,hu12,rfl,hT12⟩,hst12⟩:=h12;have hon12:=hon11.trans (kE hon11.dk hu12 hr12 hs12 (Nat.le_trans hB hon11.up) (jL v12).toBelow (jL v12).kz);refine(dR (Pv (h0:=w12.heap) hT12) rfl hst12).mono fun m13 t13 h13=>?_;obtain⟨g13,w13,⟨⟨T3,todo,rfl,hT3⟩,hh13⟩,ho13,hst13⟩:=h13;have hon13:=hon12.trans (dQ (w':=w13) hon12.dk hon12.rel hhid6 hh13 ho13).toSO;have hsz13:w13.heap.size=w12.heap.size:=by rw[hh13]
  rw[<-hsz13] at hst13;exact⟨w13,_,_,T3,todo,hon13.kw,hon13.os,hon13.up,hT3,hst13⟩
def D0(W:World)(b:Nat):Prop:=∃o,W.heap[b]?=some o/\¬kF (cM fun _=>False) o/\¬eZ o
theorem Oy(W:World):∃v,Rel (cM (D0 W)) W v:=by
 refine yD (fun b hb=>?_) (fun b o ho hv hf=>⟨o,ho,fun h=>hf (pN.1 h),hv⟩) (fun b c e f hb hc=>?_)
 .obtain⟨o,ho,_⟩:=hb;exact(Array.getElem?_eq_some_iff.1 ho).1
 .obtain⟨o,ho,hf,_⟩:=hb;rw[hc] at ho;cases ho;exact absurd trivial hf
theorem E1(W:World)(g:Goroutine):fB Tryz.prog (fun _=>False) W.heap.size (0+1) g W (solo g W) #[]:=
 ⟨#[g],none,fun _=>0,rfl,rfl,rfl,leavers_one _ _,⟨past_nil.mono (Nat.zero_le _),fun _ _ _ _ _ h=>h.elim,fun op hop=>by simp at hop,fun op hop=>by simp at hop⟩⟩
def Sn(x y:Value):Frame.enter Tryz.prog 7 #[x,y] .normal=(base 7).at ⟨#[x,y]++Array.replicate 116 undef,[]⟩ [.code (Tryz.f7.body.getD .skip)]:=by
 have b:Tryz.f7.body=some (Tryz.f7.body.getD .skip):=kR
 have a:118 - (#[x,y]:Array Value).size=116:=rfl;rw[enter_at _ Tryz.func7 b,Tryz.ntmps7,a]
def runN_add{m d:Machine}{a:Nat}(h:runN P a m=.next d)(b:Nat):runN P (a+b) m=runN P b d:=by
 induction a generalizing m with
 |zero=>
  simp only[runN,Stepped.next.injEq] at h;subst h;rw[Nat.zero_add]
 |succ a e=>
  rw[Nat.succ_add];simp only[runN] at h⊢;cases c:step P m with
  |next f=>
   rw[c] at h;exact e h
  |ended o w=>
   rw[c] at h;cases h
def l5(W:World)(v:Value)(w':World):Prop:=v=.bool true/\(∀b,b<W.heap.size->w'.heap[b]?=W.heap[b]?)/\(w'.os=W.os/\w'.output=W.output)/\W.heap.size<=w'.heap.size
def R8(W:World)(R:uE W vi.a ds)(H:vi.n=ds.length)(m:E0 W vi.a ds.length)(A:∃c t f,W.heap[0]?=some (.cells c t f)/\t≠4/\0<c.size)(P: @nE ⟨W.heap.size,W.heap.size,Nat.le_refl _⟩ W vo os)(D:os.length<=200000)(u: @Ge ⟨W.heap.size,W.heap.size,Nat.le_refl _⟩ W dp li):
  ∃M last p k s,runNT Tryz.prog (M+1) (solo (G (Frame.enter Tryz.prog 7 #[.slice vi.a vi.n vi.c,.slice vo.a vo.n vo.c] .normal) []) W) #[]=(.ended p k,s)/\runN Tryz.prog M (solo (G (Frame.enter Tryz.prog 7 #[.slice vi.a vi.n vi.c,.slice vo.a vo.n vo.c] .normal) []) W)=.next last/\
   step Tryz.prog last=.ended p k/\Conc.Good Tryz.prog (l5 W) last p k s:=by
 letI:aB:=⟨W.heap.size,W.heap.size,Nat.le_refl _⟩
 obtain⟨v,o⟩:=Oy W;rw[Sn];obtain⟨E,j⟩:∃g,g=G ((base 7).at ⟨#[.slice vi.a vi.n vi.c,.slice vo.a vo.n vo.c]++Array.replicate 116 undef,[]⟩ [.code (Tryz.f7.body.getD .skip)]) []:=⟨_,rfl⟩;rw[<-j];have a:=E1 W E;have y:=Rk (k0:=0) (D:=D0 W) (w:=W) (v:=v) (m:=solo E W) (t:=#[]) (Shun:=fun _=>False) rfl rfl u o (fun b J=>by
  obtain⟨ob,F,Y,O⟩:=J;exact⟨(Array.getElem?_eq_some_iff.1 F).1,ob,F,fun h=>Y (pN.1 h),O⟩) (fun l S=>S.elim) (by exact oM) R H m A P D (by rw[<-j];exact a)
 clear a j;obtain⟨N,m1,t1,e,w1,i,Z,T,r,w,C,z,L,x⟩:=y;obtain⟨gs,sl,q,rfl,H,h0,Q,V⟩:=x.ex;have B:Goes Tryz.prog true AtRel (fun _ _ _=>False) (AtEnd Tryz.prog i w1.heap.size (l5 W)) 0 (G {(base 7).at ⟨T,[]⟩ r with mode:=.returning} []) w1:=fun I n=>by
  obtain⟨d,rfl⟩:=n;refine⟨rfl,.bool true,#[],?_,sI,rfl,w,C,z⟩;simp[G,stepG,unwind,doReturn,results,Frame.at,base,Tryz.func7,seen,GStep.after,L]
 obtain⟨M,last,p,k,s,k1,U,K,X⟩:=beside_ends (sl:=sl) (fun _ _ _ h=>h.elim) h0 Q V.tY B;refine⟨N+M,last,p,k,s,?_,?_,K,X⟩
 .rw[Nat.add_assoc,runNT_add,e];exact k1
 .rw[runN_add (by rw[<-runNT_fst _ _ _ #[],e])];exact U
end
end
section
open Go.ChangeShapes
theorem Pw:(Tryz.prog.globals[0]?).map (·.type)=some 36:=kR
theorem Qt:(Tryz.prog.globals[1]?).map (·.type)=some 36:=kR
theorem Py:(Tryz.prog.globals[3]?).map (·.type)=some 36:=kR
theorem Pz:Tryz.prog.globalNamed "purser/machine.ErrDeep" =some 0:=kR
theorem Qu:Tryz.prog.globalNamed "purser/machine.ErrNoGas" =some 1:=kR
theorem P0:Tryz.prog.globalNamed "purser/ledger.ErrLittle" =some 3:=kR
theorem Qv:Tryz.prog.globalNamed "errors.errorType" =some 4:=kR
theorem Qw:Tryz.prog.types.size=443:=kR
theorem Qx:(Tryz.prog.cutTypes.find? (·.1== "internal/reflectlite.rtype")).map (·.2)=some 355:=kR
theorem E2:((List.range 443).filter fun t=>Tryz.prog.rowNamed t [101,114,114,111,114])=[36]:=kR
theorem lY:typeHandle Tryz.prog 36=pq 11 36:=kR
theorem star: "*" ++ "errors.errorString" = "*errors.errorString" :=dC
theorem E3(u:TypeId)(h:Tryz.prog.typeName? 3 u=some "*errors.errorString"):u=407:=
 typeName_ptr_named (nm:= "errors.errorString") (by rw[star];kernel_rfl) kR dC u (by rw[star];exact h)
theorem l9:Tryz.prog.cellsOf 431=1:=kR
theorem wo:Tryz.prog.cellsOf 9=1:=kR
theorem Qy:(Tryz.prog.globals[5]?).map (·.type)=some 36:=kR
theorem Qz:Tryz.prog.globalNamed "purser/machine.ErrNoInstruction" =some 5:=kR
theorem Q0:(Tryz.prog.globals[2]?).map (·.type)=some 36:=kR
theorem Q1:(Tryz.prog.globals[6]?).map (·.type)=some 36:=kR
theorem Q2:(Tryz.prog.globals[7]?).map (·.type)=some 36:=kR
theorem Oz:(Tryz.prog.globals[10]?).map (·.type)=some 36:=kR
theorem Q3:Tryz.prog.globalNamed "purser/machine.ErrLongCode" =some 2:=kR
theorem Q4:Tryz.prog.globalNamed "purser/machine.ErrFewWords" =some 6:=kR
theorem Q5:Tryz.prog.globalNamed "purser/machine.ErrManyWords" =some 7:=kR
theorem O0:Tryz.prog.globalNamed "purser/machine.ErrNoMark" =some 10:=kR
theorem HD{W:World}{k1 k2:String}{i1 i2:Nat}{x1 x2:List UInt8}{r:List (String×DataW Unit)}(h:laidMet Tryz.prog ((k1,.iface "*errors.errorString" (.ptr (.agg [.lit (.string x1)])))::(k2,.iface "*errors.errorString" (.ptr (.agg [.lit (.string x2)])))::r) W)(g1:Tryz.prog.globalNamed k1=some i1)(t1:(Tryz.prog.globals[i1]?).map (·.type)=some 36)(g2:Tryz.prog.globalNamed k2=some i2)(t2:(Tryz.prog.globals[i2]?).map (·.type)=some 36):
  ∃p q,W.cell? ⟨i1,0,none⟩=some (.iface 407 (.pointer (some p)))/\W.cell? ⟨i2,0,none⟩=some (.iface 407 (.pointer (some q)))/\p≠q/\(∃c t,W.heap[p.block]?=ob c t)/\∃c t,W.heap[q.block]?=ob c t:=by
 obtain⟨a,d,_,_,ca,cd,ta,td,va,vd,_,_,_,_,_,_,had,ra,rd⟩:=laid_sentinels2 h g1 t1 g2 t2 Tryz.underlying36 E3 Tryz.underlying407 Tryz.underlying431 rfl rfl Tryz.underlying9 l9 wo;exact⟨a,d,by simpa using World.var?_cell g1 va 0,by simpa using World.var?_cell g2 vd 0,had,⟨_,_,ra⟩,_,_,rd⟩
theorem HF{W:World}{i:Nat}{p q:Addr}(hp:W.cell? ⟨i,0,none⟩=some (.iface 407 (.pointer (some p))))(hq:W.cell? ⟨i,0,none⟩=some (.iface 407 (.pointer (some q)))):p=q:=by
 have:=hp.symm.trans hq;simpa using this
def mz(x:List UInt8):DataW Unit:=.iface "*errors.errorString" (.ptr (.agg [.lit (.string x)]))
theorem EI{W:World}{dp li:Addr}{nm:String}{i:Nat}{x xl xd:List UInt8}(h1:laidMet Tryz.prog [("purser/ledger.ErrLittle",mz xl),(nm,mz x)] W)(h2:laidMet Tryz.prog [(nm,mz x),("purser/machine.ErrDeep",mz xd)] W)(gn:Tryz.prog.globalNamed nm=some i)(gt:(Tryz.prog.globals[i]?).map (·.type)=some 36)(cl:W.cell? ⟨3,0,none⟩=some (.iface 407 (.pointer (some li))))(cd:W.cell? ⟨0,0,none⟩=some (.iface 407 (.pointer (some dp)))):∃e,W.cell? ⟨i,0,none⟩=some (.iface 407 (.pointer (some e)))/\ @Eo ⟨W.heap.size,W.heap.size,Nat.le_refl _⟩ W dp li e:=by
 obtain⟨l',e,c1,c2,n1,_,o2⟩:=HD h1 P0 Py gn gt;obtain⟨e',d',c3,c4,n2,_,_⟩:=HD h2 gn gt Pz Pw;obtain rfl:=HF cl c1;obtain rfl:=HF cd c4;obtain rfl:=HF c2 c3;have lt:e.block<W.heap.size:=by
  obtain⟨_,_,h⟩:=o2;exact(Array.getElem?_eq_some_iff.1 h).1
 exact⟨e,c2,lt,n2,fun h=>n1 h.symm,o2⟩
theorem Km{W:World}{xl xd:List UInt8}(h0:laidMet Tryz.prog [("purser/ledger.ErrLittle",mz xl),("purser/machine.ErrDeep",mz xd)] W)(h:∀q∈[("purser/machine.ErrNoGas",1),("purser/machine.ErrLongCode",2),("purser/machine.ErrNoInstruction",5),("purser/machine.ErrFewWords",6),("purser/machine.ErrManyWords",7),("purser/machine.ErrNoMark",10)],∃x,laidMet Tryz.prog [("purser/ledger.ErrLittle",mz xl),(q.1,mz x)] W/\laidMet Tryz.prog [(q.1,mz x),("purser/machine.ErrDeep",mz xd)] W)(he:W.cell? ⟨4,0,none⟩=some (.iface 355 (.agg #[pq 11 36]))):∃dp li, @Ge ⟨W.heap.size,W.heap.size,Nat.le_refl _⟩ W dp li:=by
 obtain⟨li,dp,c1,c2,n1,o1,o2⟩:=HD h0 P0 Py Pz Pw;have lt:∀{b:Nat},(∃c t,W.heap[b]?=ob c t)->b<W.heap.size:=fun⟨_,_,h⟩=>(Array.getElem?_eq_some_iff.1 h).1;obtain⟨x1,p1,q1⟩:=h ("purser/machine.ErrNoGas",1) sI;obtain⟨x2,p2,q2⟩:=h ("purser/machine.ErrLongCode",2) sI;obtain⟨x5,p5,q5⟩:=h ("purser/machine.ErrNoInstruction",5) sI;obtain⟨x6,p6,q6⟩:=h ("purser/machine.ErrFewWords",6) sI;obtain⟨x7,p7,q7⟩:=h ("purser/machine.ErrManyWords",7) sI;obtain⟨x10,p10,q10⟩:=h ("purser/machine.ErrNoMark",10) sI;have e10:=EI p10 q10 O0 Oz c1 c2;have lo:10<W.heap.size:=by
  obtain⟨e,he,_⟩:=e10;exact World.block_lt_of_cell? W ⟨10,0,none⟩ he
 letI:aB:=⟨W.heap.size,W.heap.size,Nat.le_refl _⟩
 refine⟨dp,li,⟨lo,lt o2,lt o1⟩,Nat.le_refl _,c2,c1,he,fun g hg=>?_,o2,o1,n1⟩;simp only[List.mem_cons,List.not_mem_nil,or_false] at hg;rcases hg with rfl|rfl|rfl|rfl|rfl|rfl
 .exact EI p1 q1 Qu Qt c1 c2
 .exact EI p2 q2 Q3 Q0 c1 c2
 .exact EI p5 q5 Qz Qy c1 c2
 .exact EI p6 q6 Q4 Q1 c1 c2
 .exact EI p7 q7 Q5 Q2 c1 c2
 .exact e10
end
end Go.Mark
