import Derived.Lib.SmallJoins
import Derived.Test.YtbephahokhnccaaGreatDoorJ34
set_option linter.all false
set_option maxRecDepth 100000
namespace Go.Mark
open Go.RowKit Go.Proofs Go.Proofs.Tryz
variable{a:Addr}{held:Bool}{x:Int}{l cs:K3}{fuel cap len:Nat}{spare:Nat->Bool}{a0:yj}{v:vZ}{w:WR}
section
open Go.ChangeShapes Go.WideShapes Go.ChangeAt Go.Joins Go.Deep
theorem O1:Tryz.prog.cellsOf 39=1:=kR
theorem E4:Tryz.prog.cellsOf 41=4:=kR
theorem Ko:Tryz.prog.cellsOf 72=8:=kR
theorem Kr:Tryz.prog.cellsOf 52=8:=kR
theorem O2:Tryz.prog.cellsOf 3=1:=kR
theorem P1:Tryz.prog.cellsOf 9=1:=kR
theorem O3:Tryz.prog.cellsOf 50=1:=kR
theorem Ks:Tryz.prog.bytesOf 72=64:=kR
theorem Kt:Tryz.prog.bytesOf 52=88:=kR
theorem oP{x:Int}(h:(Lit.int .u64 x).wf=true):0<=x/\x<18446744073709551616:=by
 simp[Lit.wf,IntKind.min,IntKind.max,IntKind.signed,IntKind.bits] at h;exact oM
theorem Ku{l:List Value}(h:l.length=4):∃a b c d,l=[a,b,c,d]:=by
 match l,h with
 | [a,b,c,d],_=>exact⟨a,b,c,d,rfl⟩
theorem Kv{l:List Value}(h:l.length=1):∃a,l=[a]:=by
 match l,h with
 | [a],_=>exact⟨a,rfl⟩
theorem nF{H:Type}{enc:TypeId×Value->H}{w:World}{base:Nat}{spare:Nat->Bool}{held:Bool}{fuel:Nat}{cs:List Value}{x:DataW H×List MemPlace}(hl:cs.length=4)(h:DataW.trod enc Tryz.prog w base spare held fuel 41 cs=some x):∃n:Nat,n<M/\cs=[.int .u64 (aI n 0),.int .u64 (aI n 1),.int .u64 (aI n 2),.int .u64 (aI n 3)]:=by
 obtain⟨v0,v1,v2,v3,rfl⟩:=Ku hl;obtain⟨y0,y1,y2,y3,m,hx,h0,h1,h2,h3⟩:=trod_array4 Tryz.underlying41 O1 h;obtain⟨x0,e0,_,w0⟩:=DataW.trod_int Tryz.underlying39 h0;obtain⟨x1,e1,_,w1⟩:=DataW.trod_int Tryz.underlying39 h1;obtain⟨x2,e2,_,w2⟩:=DataW.trod_int Tryz.underlying39 h2;obtain⟨x3,e3,_,w3⟩:=DataW.trod_int Tryz.underlying39 h3;simp at e0 e1 e2 e3;subst e0 e1 e2 e3;obtain⟨n,hn,rfl,rfl,rfl,rfl⟩:=IS x0 x1 x2 x3 (oP w0).1 (oP w1).1 (oP w2).1 (oP w3).1 (oP w0).2 (oP w1).2 (oP w2).2 (oP w3).2;exact⟨n,hn,rfl⟩
theorem PZ{H:Type}{enc:TypeId×Value->H}{w:World}{base:Nat}{spare:Nat->Bool}{held:Bool}{fuel:Nat}{cs:List Value}{x:DataW H×List MemPlace}(h:DataW.trod enc Tryz.prog w base spare held fuel 72 cs=some x):∃p:Nat×Nat,p.1<M/\p.2<M/\cs=bX p:=by
 obtain⟨xs,n,_,_,hl,hxs,hf⟩:=DataW.trod_struct Tryz.underlying72 h;rw[Ko] at hl;have h0:DataW.trod enc Tryz.prog w base spare held n 41 ((cs.drop 0).take (Tryz.prog.cellsOf 41))=xs[0]?:=hf 0 _ rfl;have h1:DataW.trod enc Tryz.prog w base spare held n 41 ((cs.drop 4).take (Tryz.prog.cellsOf 41))=xs[1]?:=hf 1 _ rfl;rw[E4] at h0 h1;rw[List.drop_zero] at h0;replace hxs:xs.length=2:=hxs;rw[List.getElem?_eq_getElem oM] at h0 h1;obtain⟨k,hk,e0⟩:=nF (by simp;exact oM) h0;obtain⟨v,hv,e1⟩:=nF (by simp;exact oM) h1;refine⟨(k,v),hk,hv,?_⟩;have:=List.take_append_drop 4 cs;rw[List.take_of_length_le (by simp;exact oM)] at e1;rw[<-this,e0,e1];rfl
structure Kw{H:Type} (w:World) (cs:List Value) (D:DataW H) (p:bF×SV):Prop where
 cs:cs=aV p.1 p.2
 cn:p.1.cn<M
 key:∀q∈p.1.bE,q.1<M/\q.2<M
 sl:p.2.n=p.1.bE.length/\(p.1.bE=[]\/∃bs os,p.2.a=some ⟨bs,os,none⟩/\fO w bs os p.1.bE)
 wt:(∀n∈D.weights Tryz.prog 52,n<=reachBytes)->p.1.bE.length*64<=reachBytes
theorem uX{w:World}{base:Nat}{a:Addr}{n:Nat}{l:List Value}(h:w.cells? base a n=some l):l.length=n/\∀j v,l[j]?=some v->w.cell? (a.add j)=some v:=by
 unfold World.cells? at h;split at h
 .have hl:=mapM_some_length h;refine⟨by simpa using hl,fun j v hj=>?_⟩;have hjn:j<n:=by
   have:=(List.getElem?_eq_some_iff.1 hj).1;simp at hl;exact oM
  have:=mapM_some_get h j j (by simp[hjn]);rw[this,hj]
 .cases h
theorem EJ{w:World}{a:Addr}{v:Value}(h:w.cell? a=some v):a=⟨a.block,a.off,none⟩:=by
 obtain⟨b,o,s⟩:=a;cases s with
 |none=>rfl
 |some s=>
  unfold World.cell? at h;split at h
  .simp at h
  .cases h
theorem QA{H:Type}{enc:TypeId×Value->H}{w:World}{base:Nat}{held:Bool}{fuel:Nat}{v:Value}{x:DataW H×List MemPlace}(h:DataW.trod enc Tryz.prog w base (fun _=>true) held fuel 50 [v]=some x):
  ∃(s:SV) (ss:List (Nat×Nat)),v=.slice s.a s.n s.c/\s.n=ss.length/\(∀q∈ss,q.1<M/\q.2<M)/\(ss=[]\/∃bs os,s.a=some ⟨bs,os,none⟩/\fO w bs os ss)/\((∀n∈x.1.weights Tryz.prog 50,n<=reachBytes)->ss.length*64<=reachBytes):=by
 rcases open_slice Tryz.underlying50 h with⟨hcs,rfl⟩| ⟨a,len,cap,m,n,D,Pl,hcs,_,hlc,_,hm,rfl,hel⟩
 .simp only[List.cons.injEq,and_true] at hcs;exact⟨⟨none,0,0⟩,[],hcs,rfl,fun q hq=>(by cases hq),.inl rfl,fun _=>sI⟩
 .simp only[List.cons.injEq,and_true] at hcs;simp only[if_true] at hm;rw[Ko] at hel;have hsl:∀i,i<len->∃p:Nat×Nat,(p.1<M/\p.2<M)/\∀j u,(bX p)[j]?=some u->w.cell? ((a.add (i*8)).add j)=some u:=fun i hi=>by
   obtain⟨cs',h1,h2⟩:=hel i oM;obtain⟨p,hp1,hp2,rfl⟩:=PZ h2;exact⟨p,⟨hp1,hp2⟩,(uX h1).2⟩
  obtain⟨f,hf⟩:=choose_lt hsl;refine⟨⟨some a,len,cap⟩,(List.range len).map f,hcs,sI,fun q hq=>?_,?_,fun hw=>?_⟩
  .obtain⟨i,hi,rfl⟩:=List.mem_map.1 hq;exact(hf i (List.mem_range.1 hi)).1
  .by_cases h0:0<len
   .have hc:=(hf 0 h0).2 0 _ rfl;have ha:(a.add (0*8)).add 0=a:=by simp[Addr.add]
    rw[ha] at hc;have hs:=EJ hc;refine .inr ⟨a.block,a.off,by rw[<-hs],fun i q hq=>?_⟩;simp only[List.getElem?_map,Option.map_eq_some_iff] at hq;obtain⟨i',hi',rfl⟩:=hq;obtain⟨hi1,hi2⟩:=List.getElem?_eq_some_iff.1 hi';simp only[List.length_range] at hi1;simp only[List.getElem_range] at hi2;subst hi2;intro j u hj;have:=(hf i hi1).2 j u hj;rw[add_add,hs,Addr.add_mid,<-Nat.add_assoc] at this;exact this
   .exact .inl (by rw[show len=0 by exact oM];rfl)
  .have:=hw ((((List.range len).map D).length+((List.range (m - len)).map fun j=>D (len+j)).length)*Tryz.prog.bytesOf 72) (by simp[DataW.weights,Tryz.underlying50]);rw[Ks] at this;simp only[List.length_map,List.length_range] at this⊢;exact oM
theorem mg{H:Type}{enc:TypeId×Value->H}{w:World}{base:Nat}{held:Bool}{fuel:Nat}{cs:List Value}{x:DataW H×List MemPlace}(h:DataW.trod enc Tryz.prog w base (fun _=>true) held fuel 52 cs=some x):∃p,Kw w cs x.1 p:=by
 obtain⟨xs,n,_,hx,hl,hxs,hf⟩:=DataW.trod_struct Tryz.underlying52 h;rw[Kr] at hl;have h0:DataW.trod enc Tryz.prog w base (fun _=>true) held n 3 ((cs.drop 0).take (Tryz.prog.cellsOf 3))=xs[0]?:=hf 0 _ rfl;have h1:DataW.trod enc Tryz.prog w base (fun _=>true) held n 41 ((cs.drop 1).take (Tryz.prog.cellsOf 41))=xs[1]?:=hf 1 _ rfl;have h2:DataW.trod enc Tryz.prog w base (fun _=>true) held n 3 ((cs.drop 5).take (Tryz.prog.cellsOf 3))=xs[2]?:=hf 2 _ rfl;have h3:DataW.trod enc Tryz.prog w base (fun _=>true) held n 9 ((cs.drop 6).take (Tryz.prog.cellsOf 9))=xs[3]?:=hf 3 _ rfl;have h4:DataW.trod enc Tryz.prog w base (fun _=>true) held n 50 ((cs.drop 7).take (Tryz.prog.cellsOf 50))=xs[4]?:=hf 4 _ rfl;rw[O2,List.drop_zero] at h0;rw[E4] at h1;rw[O2] at h2;rw[P1] at h3;rw[O3] at h4;replace hxs:xs.length=5:=hxs;match xs,hxs with
 | [y0,y1,y2,y3,y4],_=>
 simp only[List.getElem?_cons_zero,List.getElem?_cons_succ] at h0 h1 h2 h3 h4;obtain⟨i0,e0,_,_⟩:=DataW.trod_int Tryz.underlying3 h0;obtain⟨k,hk,e1⟩:=nF (by simp;exact oM) h1;obtain⟨i2,e2,_,_⟩:=DataW.trod_int Tryz.underlying3 h2;obtain⟨s,e3,_,_⟩:=DataW.trod_string Tryz.underlying9 h3;obtain⟨v4,e4⟩:=Kv (l:=(cs.drop 7).take 1) (by simp;exact oM);rw[e4] at h4;obtain⟨sv,ss,hv,hn,hkey,hsl,hwt⟩:=QA h4;refine⟨(⟨i0,k,i2,s,ss⟩,sv),?_,hk,hkey,⟨hn,hsl⟩,fun hw=>hwt fun n hn=>hw n ?_⟩
 .have t1:=List.take_append_drop 1 cs;have t2:=List.take_append_drop 4 (cs.drop 1);have t3:=List.take_append_drop 1 (cs.drop 5);have t4:=List.take_append_drop 1 (cs.drop 6);have t5:(cs.drop 7).take 1=cs.drop 7:=List.take_of_length_le (by simp;exact oM);simp only[List.drop_drop] at t2 t3 t4;rw[<-t1,<-t2,<-t3,<-t4,<-t5,e0,e1,e2,e3,e4,hv];rfl
 .rw[hx];simp only[List.map_cons,List.map_nil,DataW.weights,Tryz.underlying52];exact DataW.weights_mem_each (j:=4) (t:=50) rfl rfl n hn
section
variable{H:Type}
theorem oQ{P:Program}{e:TypeId}:∀{l:List (DataW H)} {d:DataW H},d∈l->∀n∈d.weights P e,n∈DataW.weightsAll P e l
 |_::_,_,.head _,n,hn=>by simp only[DataW.weightsAll,List.mem_append];exact .inl hn
 |_::_,_,.tail _ h,n,hn=>by simp only[DataW.weightsAll,List.mem_append];exact .inr (oQ h n hn)
end
theorem XS{H:Type}{enc:TypeId×Value->H}{w:World}{base:Nat}{held:Bool}{fuel:Nat}{a0:Option Addr}{len cap:Nat}{x:DataW H×List MemPlace}(h:DataW.trod enc Tryz.prog w base (fun _=>true) held fuel 22 [.slice a0 len cap]=some x)(hw:∀n∈x.1.weights Tryz.prog 22,n<=reachBytes):
  ∃ds:List (bF×SV),ds.length=len/\uE w a0 ds:=by
 rcases open_slice Tryz.underlying22 h with⟨hcs,rfl⟩| ⟨a,len',cap',m,n,D,Pl,hcs,_,hlc,_,hm,rfl,hel⟩
 .simp only[List.cons.injEq,and_true,Value.slice.injEq] at hcs;obtain⟨rfl,rfl,rfl⟩:=hcs;exact⟨[],rfl,.inl rfl,fun p hp=>(by cases hp),fun p hp=>(by cases hp),fun p hp=>(by cases hp),fun p hp=>(by cases hp),dC⟩
 .simp only[List.cons.injEq,and_true,Value.slice.injEq] at hcs;obtain⟨rfl,rfl,rfl⟩:=hcs;simp only[if_true] at hm;rw[Kr] at hel;have hacc:∀i,i<len->∃p:bF×SV,∃cs,w.cells? base (a.add (i*8)) 8=some cs/\Kw w cs (D i) p:=fun i hi=>by
   obtain⟨cs',h1,h2⟩:=hel i oM;obtain⟨p,hp⟩:=mg h2;exact⟨p,cs',h1,hp⟩
  have hin:Inhabited (bF×SV):=⟨(⟨0,0,0,ByteArray.empty,[]⟩,⟨none,0,0⟩)⟩;obtain⟨f,hf⟩:=choose_lt hacc;have hwl:=hw ((((List.range len).map D).length+((List.range (m - len)).map fun j=>D (len+j)).length)*Tryz.prog.bytesOf 52) (by simp[DataW.weights,Tryz.underlying22]);rw[Kt] at hwl;simp only[List.length_map,List.length_range,reachBytes] at hwl;have hall:∀p∈(List.range len).map f,∃i,i<len/\p=f i:=fun p hp=>by
   obtain⟨i,hi,rfl⟩:=List.mem_map.1 hp;exact⟨i,List.mem_range.1 hi,rfl⟩
  refine⟨(List.range len).map f,sI,?_,fun p hp=>?_,fun p hp=>?_,fun p hp=>?_,fun p hp=>?_,by simp;exact oM⟩
  .by_cases h0:0<len
   .obtain⟨cs,h1,h2⟩:=hf 0 h0;have hc:=(uX h1).2 0 _ (by rw[h2.cs];rfl);have ha:(a.add (0*8)).add 0=a:=by simp[Addr.add]
    rw[ha] at hc;have hs:=EJ hc;refine .inr ⟨a.block,a.off,by rw[<-hs],fun i q hq=>?_⟩;simp only[List.getElem?_map,Option.map_eq_some_iff] at hq;obtain⟨i',hi',rfl⟩:=hq;obtain⟨hi1,hi2⟩:=List.getElem?_eq_some_iff.1 hi';simp only[List.length_range] at hi1;simp only[List.getElem_range] at hi2;subst hi2;intro j u hj;obtain⟨cs,h1,h2⟩:=hf i hi1;have:=(uX h1).2 j u (by rw[h2.cs];exact hj);rw[add_add,hs,Addr.add_mid,<-Nat.add_assoc] at this;exact this
   .exact .inl (by rw[show len=0 by exact oM];rfl)
  .obtain⟨i,hi,rfl⟩:=hall p hp;obtain⟨cs,_,h2⟩:=hf i hi;exact h2.sl
  .obtain⟨i,hi,rfl⟩:=hall p hp;obtain⟨cs,_,h2⟩:=hf i hi;exact h2.cn
  .obtain⟨i,hi,rfl⟩:=hall p hp;obtain⟨cs,_,h2⟩:=hf i hi;have:=h2.wt fun n hn=>hw n (by
    simp only[DataW.weights,Tryz.underlying22,List.mem_cons,List.mem_append];exact .inr (.inl (oQ (List.mem_map_of_mem (List.mem_range.2 hi)) n hn)))
   simp only[reachBytes] at this;exact oM
  .obtain⟨i,hi,rfl⟩:=hall p hp;obtain⟨cs,_,h2⟩:=hf i hi;exact h2.key
theorem Q6:sameLayout Tryz.prog Tryz.prog.depth 4 52=false:=kR
theorem Kx(d count off n:Nat):liesAt Tryz.prog d 4 count off 52 n=false:=by
 cases d with
 |zero=>rfl
 |succ d=>
  have h1:∀k,rowAt Tryz.prog (sameLayout Tryz.prog Tryz.prog.depth · 52) k 4 count off n=false:=by
   intro k;cases k with
   |zero=>rfl
   |succ k=>simp[rowAt,Q6,Tryz.underlying4]
  simp[liesAt,h1,Tryz.underlying52]
theorem XT{w:World}{base:Nat}{a0:Option Addr}{cap:Nat}{ds:List (bF×SV)}(hok:Value.okWide Tryz.prog w .any base 22 (.slice a0 ds.length cap))(hI:uE w a0 ds):E0 w a0 ds.length:=by
 rcases hI.acc with rfl| ⟨b,o,rfl,hA⟩
 .exact .inl rfl
 .by_cases h0:ds.length=0
  .exact .inl h0
  .obtain⟨q,hq⟩:∃q,ds[ds.length - 1]?=some q:=⟨_,List.getElem?_eq_getElem oM⟩;have h7:=hA _ q hq 7 _ rfl;have hh:w.has Tryz.prog .any base ⟨b,o,none⟩ 52 cap:=by
    simp only[Value.okWide,Tryz.underlying22,Cell.okWide,Cell.ok] at hok;exact hok.2.2
   obtain⟨_,_,row,cells,hs,hl⟩:=hh;unfold World.shape? at hs;split at hs
   .rename_i X e f hX;simp only[Option.some.injEq,Prod.mk.injEq] at hs;obtain⟨rfl,rfl⟩:=hs;refine .inr ⟨b,o,X,e,f,rfl,hX,?_,?_⟩
    .rintro rfl;rw[Kx] at hl;cases hl
    .have:o+(ds.length - 1)*8+7<X.size:=by
      simp only[World.cell?,hX] at h7;exact(Array.getElem?_eq_some_iff.1 h7).1
     exact oM
   .cases hs
theorem Sz{x:Int}(h:(Lit.int .i64 x).wf=true):-9223372036854775808<=x/\x<=9223372036854775807:=by
 simp[Lit.wf,IntKind.min,IntKind.max,IntKind.signed,IntKind.bits] at h;exact oM
theorem I6{H:Type}{enc:TypeId×Value->H}{w:World}{base:Nat}{held:Bool}{fuel:Nat}{l:List Value}{x:DataW H×List MemPlace}(h:DataW.trod enc Tryz.prog w base (fun _=>true) held fuel 43 l=some x):∃o:Od,(o.val<M/\-9223372036854775808<=o.src/\o.src<=9223372036854775807)/\l=o.cs.toList/\∃ps,x.1=.agg ps/\ps.length=8:=by
 obtain⟨xs,n,_,hx,hl,hxs,hf⟩:=DataW.trod_struct Tryz.underlying43 h;have jc43:Tryz.prog.cellsOf 43=11:=kR
 rw[jc43] at hl;have h0:DataW.trod enc Tryz.prog w base (fun _=>true) held n 3 ((l.drop 0).take (Tryz.prog.cellsOf 3))=xs[0]?:=hf 0 _ rfl;have h1:DataW.trod enc Tryz.prog w base (fun _=>true) held n 3 ((l.drop 1).take (Tryz.prog.cellsOf 3))=xs[1]?:=hf 1 _ rfl;have h2:DataW.trod enc Tryz.prog w base (fun _=>true) held n 3 ((l.drop 2).take (Tryz.prog.cellsOf 3))=xs[2]?:=hf 2 _ rfl;have h3:DataW.trod enc Tryz.prog w base (fun _=>true) held n 41 ((l.drop 3).take (Tryz.prog.cellsOf 41))=xs[3]?:=hf 3 _ rfl;have h4:DataW.trod enc Tryz.prog w base (fun _=>true) held n 3 ((l.drop 7).take (Tryz.prog.cellsOf 3))=xs[4]?:=hf 4 _ rfl;have h5:DataW.trod enc Tryz.prog w base (fun _=>true) held n 3 ((l.drop 8).take (Tryz.prog.cellsOf 3))=xs[5]?:=hf 5 _ rfl;have h6:DataW.trod enc Tryz.prog w base (fun _=>true) held n 9 ((l.drop 9).take (Tryz.prog.cellsOf 9))=xs[6]?:=hf 6 _ rfl;have h7:DataW.trod enc Tryz.prog w base (fun _=>true) held n 3 ((l.drop 10).take (Tryz.prog.cellsOf 3))=xs[7]?:=hf 7 _ rfl;rw[O2] at h0 h1 h2 h4 h5 h7;rw[E4] at h3;rw[P1] at h6;replace hxs:xs.length=8:=hxs;match xs,hxs with
 | [y0,y1,y2,y3,y4,y5,y6,y7],_=>
 simp only[List.getElem?_cons_zero,List.getElem?_cons_succ] at h0 h1 h2 h3 h4 h5 h6 h7;obtain⟨k,hk,e3⟩:=nF (by simp;exact oM) h3;match l,hl with
 | [v0,v1,v2,v3,v4,v5,v6,v7,v8,v9,v10],_=>
 obtain⟨i0,e0,_,w0⟩:=DataW.trod_int Tryz.underlying3 h0;obtain⟨i1,e1,_,_⟩:=DataW.trod_int Tryz.underlying3 h1;obtain⟨i2,e2,_,_⟩:=DataW.trod_int Tryz.underlying3 h2;obtain⟨i4,e4,_,_⟩:=DataW.trod_int Tryz.underlying3 h4;obtain⟨i5,e5,_,_⟩:=DataW.trod_int Tryz.underlying3 h5;obtain⟨s,e6,_,_⟩:=DataW.trod_string Tryz.underlying9 h6;obtain⟨i7,e7,_,_⟩:=DataW.trod_int Tryz.underlying3 h7;simp only[List.drop_succ_cons,List.drop_zero,List.take_succ_cons,List.take_zero,List.cons.injEq,and_true] at e0 e1 e2 e3 e4 e5 e6 e7;obtain⟨e31,e32,e33,e34⟩:=e3;subst e0 e1 e2 e31 e32 e33 e34 e4 e5 e6 e7;exact⟨⟨i0,i1,i2,k,i4,i5,s,i7⟩,⟨hk,Sz w0⟩,rfl,_,by rw[hx],rfl⟩
theorem Rf{H:Type}{enc:TypeId×Value->H}{w:World}{base:Nat}{held:Bool}{fuel:Nat}{a0:Option Addr}{len cap:Nat}{x:DataW H×List MemPlace}(h:DataW.trod enc Tryz.prog w base (fun _=>true) held fuel 57 [.slice a0 len cap]=some x):
  ∃os:List Od, @nE ⟨w.heap.size,w.heap.size,Nat.le_refl _⟩ w ⟨a0,len,cap⟩ os/\(os=[]\/∃Ds Sp,x.1=.slice Ds Sp/\Ds.length=os.length/\∀d∈Ds,∃ps,d=.agg ps/\ps.length=8):=by
 letI:aB:=⟨w.heap.size,w.heap.size,Nat.le_refl _⟩
 rcases open_slice Tryz.underlying57 h with⟨hcs,rfl⟩| ⟨a,len',cap',m,n,D,Pl,hcs,_,hlc,_,hm,rfl,hel⟩
 .simp only[List.cons.injEq,and_true,Value.slice.injEq] at hcs;obtain⟨rfl,rfl,rfl⟩:=hcs;exact⟨[],⟨rfl,fun o ho=>(by cases ho),.inl rfl⟩,.inl rfl⟩
 .simp only[List.cons.injEq,and_true,Value.slice.injEq] at hcs;obtain⟨rfl,rfl,rfl⟩:=hcs;simp only[if_true] at hm;have jc43:Tryz.prog.cellsOf 43=11:=kR
  rw[jc43] at hel;have hall:∀i,i<len->∃o:Od,(o.val<M/\-9223372036854775808<=o.src/\o.src<=9223372036854775807)/\(∀j v,o.cs.toList[j]?=some v->w.cell? ((a.add (i*11)).add j)=some v)/\∃ps,D i=.agg ps/\ps.length=8:=fun i hi=>by
   obtain⟨cs',h1,h2⟩:=hel i (by exact oM);obtain⟨o,h3,rfl,h4⟩:=I6 h2;exact⟨o,h3,(uX h1).2,h4⟩
  have hin:Inhabited Od:=⟨⟨0,0,0,0,0,0,⟨#[]⟩,0⟩⟩;obtain⟨f,hf⟩:=choose_lt hall;refine⟨(List.range len).map f,⟨by simp,fun o ho=>?_,?_⟩,.inr ⟨_,_,rfl,by simp,fun d hd=>?_⟩⟩
  .obtain⟨i,hi,rfl⟩:=List.mem_map.1 ho;exact(hf i (List.mem_range.1 hi)).1
  .by_cases h0:0<len
   .have hc:=(hf 0 h0).2.1 0 _ rfl;have ha:(a.add (0*11)).add 0=a:=by simp[Addr.add]
    rw[ha] at hc;have hs:=EJ hc;refine .inr ⟨a.block,a.off,by rw[<-hs],World.block_lt_of_cell? w a hc,fun i o ho=>?_⟩;simp only[List.getElem?_map,Option.map_eq_some_iff] at ho;obtain⟨i',hi',rfl⟩:=ho;obtain⟨hi1,hi2⟩:=List.getElem?_eq_some_iff.1 hi';simp only[List.length_range] at hi1;simp only[List.getElem_range] at hi2;subst hi2;intro j u hj;have:=(hf i hi1).2.1 j u hj;rw[add_add,hs,Addr.add_mid,<-Nat.add_assoc] at this;exact this
   .exact .inl (by rw[show len=0 by exact oM];rfl)
  .obtain⟨i,hi,rfl⟩:=List.mem_map.1 hd;exact(hf i (List.mem_range.1 hi)).2.2
end
end Go.Mark
