import Derived.Shelf.SlIterI.Nil
import Derived.Shelf.SlSortCmp.WholeK
import Derived.Test.YtbephahokhnccaaGreatDoorJ5
set_option linter.all false
set_option maxRecDepth 100000
set_option maxHeartbeats 4000000
namespace Go.Mark
open Go.RowKit Go.Proofs Go.Proofs.Tryz
section
open Go.MapKept Go.ChangeMaps
section
def uF(a:List MapEntry)(clock:Nat):Prop:=(∀x∈a,x.born<clock)/\(a.map (·.born)).Nodup
section
variable {κ:Type}
def cR(b:κ->vZ)(w:WR)(r:Nat)(l:List (κ×vZ)):Prop:=∃a clock,w.heap[r]?=some (.map a clock)/\Reads b a.toList l/\uF a.toList clock
def cR.FL{a:κ->vZ}{w:WR}{r:Nat}{l:List (κ×vZ)}(h:cR a w r l):lT a w r l:=let⟨e,c,d,b,_⟩:=h;⟨e,c,d,b⟩
def cR.same{b:κ->vZ}{w a:WR}{r:Nat}{l:List (κ×vZ)}(h:cR b w r l)(e:a.heap[r]?=w.heap[r]?):cR b a r l:=let⟨f,c,g,d⟩:=h;⟨f,c,e.tr g,d⟩
def cR.lt{b:κ->vZ}{w:WR}{r:Nat}{l:List (κ×vZ)}(h:cR b w r l):r<w.heap.size:=let⟨_,_,a,_⟩:=h;(aAu.1 a).1
def cR.below{b:κ->vZ}{w a:WR}{r:Nat}{l:List (κ×vZ)}(h:cR b w r l)(c:Bw w a):cR b a r l:=h.same (c.block r h.lt)
def cR.new(a:κ->vZ)(w:WR):cR a (w.alloc (.map #[] 0)) w.heap.size []:=⟨#[],0,by show(w.heap.push _)[w.heap.size]?=_;rw[aAT],rfl,by simp[uF]⟩
variable [DecidableEq κ]
def oC{A I mt:Fh}{f:κ->vZ}{ok:κ->Prop}(K:Keys A f ok)(D:zQ.prog.underlying mt=some (.map A I)){w:WR}{r:Nat}{l:List (κ×vZ)}{k:κ}{v:vZ}(F:cR f w r l)(G:ok k)(J:∀p∈l,ok p.1):
  ∃c clock,(Instr.mapUpdate mt (.map (some r)) (f k) v).run zQ.prog w=.ok () {w with heap:=w.heap.setIfInBounds r (.map c clock)}/\cR f {w with heap:=w.heap.setIfInBounds r (.map c clock)} r (kG k v l):=by
 have⟨c,clock,n,u,s⟩:=F;have B:=K.find k c.toList l w G J u;have t:r<w.heap.size:=(aAu.1 n).1;have g:∀o:Obj,(w.heap.setIfInBounds r o)[r]?=some o:=fun o=>by simp[t]
 have z:(getObj r).run zQ.prog w=.ok (.map c clock) w:=by simp[getObj,Sem.run,n]
 have C:∀o:Obj,(setObj r o).run zQ.prog w=.ok () {w with heap:=w.heap.setIfInBounds r o}:=fun o=>by simp[setObj,Sem.run,n]
 unfold Instr.mapUpdate;cases h:cZ k l 0 with
 |none=>
  refine⟨c.push {key:=f k,val:=v,born:=clock},clock+1,?_,_,_,g _,u.push h c clock,?_⟩
  .simp[run_underlying D,z,C,K.ZU,B,h]
  .refine⟨fun x d=>?_,?_⟩
   .rw[Array.toList_push] at d;rcases aAL.1 d with d|d
    .exact Nat.lt_succ_of_lt (s.1 x d)
    .rw[aAB.1 d];exact Nat.lt_succ_self _
   .rw[Array.toList_push,aBc];refine aBv.2 ⟨s.2,sI,fun a M b n e=>?_⟩;obtain⟨x,d,rfl⟩:=aAJ.1 M;have:=s.1 x d;simp at n;omega
 |some p=>
  have⟨j,x⟩:=p;have⟨H,E⟩:=u.upd (v:=v) h c;refine⟨c.modify j fun e=>{e with key:=f k,val:=v},clock,?_,_,_,g _,E,?_⟩
  .simp[run_underlying D,z,C,K.ZU,B,h,Instr.keyThatStays,H,K.bits]
  .have m:(c.modify j fun e=>{e with key:=f k,val:=v}).toList.map (·.born)=c.toList.map (·.born):=by
    apply aDc;intro i;simp only[aBy,aBp,aCq];by_cases q:j=i
    .subst q;cases c[j]?<;>simp
    .simp[q]
   refine⟨fun x d=>?_,by rw[m];exact s.2⟩;have:x.born∈(c.modify j fun e=>{e with key:=f k,val:=v}).toList.map (·.born):=aAI d;rw[m] at this;have⟨y,L,e⟩:=aAJ.1 this;rw[<-e];exact s.1 y L
def gH{e m mt:Fh}{c:κ->vZ}{ok:κ->Prop}(K:Keys e c ok)(q:zQ.prog.underlying mt=some (.map e m)){W:WR}{r:Nat}{l:List (κ×vZ)}{k:κ}{v:vZ}{o:Oper}{a:Act}{next:Fi}{Q:Fg}(i:cR c W r l)(j:ok k)(n:∀p∈l,ok p.1)(h:∀f,cR c {W with heap:=W.heap.setIfInBounds r f} r (kG k v l)->next (a.put o.dst ud) {W with heap:=W.heap.setIfInBounds r f}):
  Oper.upon zQ.prog o a next Q ((Sem.run zQ.prog (Instr.mapUpdate mt (.map (some r)) (c k) v) W).andThen fun _ g=>.ok .skip g):=by
 have⟨s,clock,b,d⟩:=oC K q (v:=v) i j n;rw[b];exact h _ d
end
structure fQ (w:World)(b r:Nat)(es:Array MapEntry)(clock:Nat)(pre:List MapEntry):Prop where
 map:w.heap[b]?=some (.map es clock)
 st:uF es.toList clock
 it:w.heap[r]?=some (.mapIter (some b) clock (pre.map (·.born)).toArray clock)
 sub:∀e∈pre,e∈es.toList
 nd:(pre.map (·.born)).Nodup
def fQ.start{w:WR}{b:Nat}{a:Array MapEntry}{clock:Nat}(c:w.heap[b]?=some (.map a clock))(d:uF a.toList clock):fQ (w.alloc (.mapIter (some b) clock #[] clock)) b w.heap.size a clock []:=
 ⟨(Below.heap_alloc w _ b (aAu.1 c).1).tr c,d,by show(w.heap.push _)[w.heap.size]?=_;rw[aAT];rfl,sI,sI⟩
def fQ.xe{w a:WR}{b r:Nat}{c:Array MapEntry}{clock:Nat}{pre:List MapEntry}(h:fQ w b r c clock pre)(e:a.heap[b]?=w.heap[b]?)(d:a.heap[r]?=w.heap[r]?):fQ a b r c clock pre:=⟨e.tr h.map,h.st,d.tr h.it,h.sub,h.nd⟩
def CP{a b:Type}{f:a->b}{l:List a}(h:(l.map f).Nodup):l.Nodup:=(aBw.1 h).imp fun h e=>h (congrArg f e)
def CQ{b:List MapEntry}(h:(b.map (·.born)).Nodup){x y:MapEntry}(k:x∈b)(g:y∈b)(e:x.born=y.born):x=y:=by
 obtain⟨i,d,rfl⟩:=aBe.1 k;obtain⟨j,c,rfl⟩:=aBe.1 g;have f:=aBg.1 h;rcases aDd i j with a|a|a
 .have:=f i j (by simpa using d) (by simpa using c) a;simp[e] at this
 .subst a;rfl
 .have:=f j i (by simpa using c) (by simpa using d) a;simp[e] at this
def fQ.next{w:WR}{b r:Nat}{g:Array MapEntry}{clock:Nat}{pre:List MapEntry}(h:fQ w b r g clock pre)(s:b≠r)(v:Fh):
  (pre.Perm g.toList/\(Instr.next (pq r 0) false v).run zQ.prog w=.ok (.tuple #[.bool false]) w)\/
  ∃e m,e∈g.toList/\e∈(leftOf g (pre.map (·.born)).toArray).toList/\(Instr.next (pq r 0) false v).run zQ.prog w=.ok (.tuple #[.bool true,e.key,e.val]) m/\fQ m b r g clock (pre++[e])/\w.grownBy m (some r)/\m.heap.size=w.heap.size/\
   (Instr.entry (pq r 0)).run zQ.prog m=.ok (.tuple #[e.key,e.val]) m:=by
 rcases run_next_at (P:=zQ.prog) w v r b clock clock (pre.map (·.born)).toArray g clock h.it h.map h.st.1 lR with⟨F,f⟩| ⟨e,D,w1,k,f⟩
 .refine .inl ⟨?_,f⟩;have o:=all_seen g _ F;have t:pre.Nodup:=CP h.nd;have z:g.toList.Nodup:=CP h.st.2;refine(aCv t z).2 fun x=>⟨h.sub x,fun l=>?_⟩;have:=o x l;simp only[List.contains_toArray,List.contains_iff_mem] at this;have⟨y,n,e⟩:=aAJ.1 this;rw[<-CQ h.st.2 (h.sub y n) l e];exact n
 .have⟨j,p⟩:=mem_left D;have u:e∉pre:=fun G=>by
   have:(pre.map (·.born)).contains e.born=true:=by simp only[List.contains_iff_mem];exact aAI G
   rw[List.contains_toArray] at p;rw[p] at this;cases this
  have A:w1.heap[r]?=some (.mapIter (some b) clock (pre.map (·.born)).toArray clock):=by rcases k with rfl|rfl<;>exact h.it
  have B:w1.heap[b]?=some (.map g clock):=by rcases k with rfl|rfl<;>exact h.map
  have d:=MapKept.heap_set (o':=.mapIter (some b) clock ((pre.map (·.born)).toArray.push e.born) clock) A;have q:(setBlock w1 r (.mapIter (some b) clock ((pre.map (·.born)).toArray.push e.born) clock)).heap[b]?=some (.map g clock):=(d.2 b s).tr B;refine .inr ⟨e,_,j,D,f,⟨q,h.st,?_,fun x l=>?_,?_⟩,?_,?_,run_entry_at _ r b clock _ g clock e d.1 q j h.st.2⟩
  .refine d.1.tr ?_;simp
  .rcases aAL.1 l with l|l
   .exact h.sub x l
   .rw[aAB.1 l];exact j
  .rw[aBc];refine aBv.2 ⟨h.nd,sI,fun a I c E C=>?_⟩;obtain⟨y,n,rfl⟩:=aAJ.1 I;simp only[aBl,aCC,aAB] at E;rw[E] at C;exact u (CQ h.st.2 (h.sub y n) j C▸n)
  .rcases k with rfl|rfl<;>exact⟨rfl,rfl,rfl,by simp[setBlock],fun i _ H=>d.2 i (fun J=>H (by rw[J]))⟩
  .rcases k with rfl|rfl<;>simp[setBlock]
def fQ.left{w:WR}{b r:Nat}{a:Array MapEntry}{clock:Nat}{pre:List MapEntry}(h:fQ w b r a clock pre):w.rangeLeft b r=(leftOf a (pre.map (·.born)).toArray).size:=by unfold World.rangeLeft;rw[h.map,h.it]
def CR{a:Array MapEntry}{pre:List MapEntry}{e:MapEntry}(b:e∈(leftOf a (pre.map (·.born)).toArray).toList):(leftOf a ((pre++[e]).map (·.born)).toArray).size<(leftOf a (pre.map (·.born)).toArray).size:=by have:=left_shrinks a _ e b;simpa using this
end
end
def slotL(a:List (Nat×Nat)):List (Nat×vZ):=a.map fun p=>(p.1,wd p.2)
def PH(c:List (Nat×Nat))(a:yj)(cap:Nat)(w:WR)(G:c=[]\/∃b o,a=some (ad b o)/\fO w b o c)(Q:c.length<2199023255552)(E:∀p∈c,p.1<M/\p.2<M)(lY:(c.map (·.1)).Nodup):
  Cq 62 #[.sl a c.length cap] w fun e v=>e=.rt (.map (some w.heap.size))/\cR wd v w.heap.size (vQ c)/\Bw w v/\w.heap.size<v.heap.size:=by
 have Ig:zQ.prog.underlying 133=some (.map 41 41):=(aC 133).tr underlying133;have I:=fun W=>yO (mt:=133) W;go_enter (qz func62),ntmps62;go_wp2;go_loopw [9] (fun i wr=>∃k:Nat,i=vI k/\k<=c.length/\cR wd wr w.heap.size (vQ (c.take k))/\Bw w wr/\w.heap.size<wr.heap.size) (fun i _=>c.length - (Go.RowKit.intOf i).toNat)
 case atStart=>
  exact⟨0,rfl,aBa _,cR.new wd w,ba,sI⟩
 case round=>
  obtain⟨k,rfl,L,u,B,t⟩:=hrel;by_cases f:k<c.length
  .have C:(k:Int)<(c.length:Int):=oM
   obtain⟨b,o,rfl,A⟩:=G.resolve_left (fun h=>by subst h;simp at f);have d:=(A.below B) k c[k] (aAG f);have F:=d 0 _ rfl;have O:=d 1 _ rfl;have c2:=d 2 _ rfl;have c3:=d 3 _ rfl;have c4:=d 4 _ rfl;have P:=d 5 _ rfl;have R:=d 6 _ rfl;have N:=d 7 _ rfl;rw[aBd] at F;clear d;have g:=E _ (aBf f);have j:=Lx c[k].2 g.2;unfold wd at j;have r:w.heap.size<(wr.nc (bX c[k]).toArray 72).heap.size:=by simp;omega
   have s:=B.aL (aBQ t) (.ce (bX c[k]).toArray 72);by_cases n:c[k].2=0
   .have l:=US n;rw[decide_eq_true n] at j;clear n;go_wp2;refine⟨⟨k+1,by go_num,oM,?_,s,r⟩,?_⟩
    .unfold vQ;rw[UM c k f l.out];exact u.below ba
    .simp[Go.RowKit.intOf];omega
   .have l:=US n;rw[decide_eq_false n] at j;clear n;go_wp2;refine gH gT Ig (k:=c[k].1) (v:=wd c[k].2) (u.below ba) g.1 (fun p H=>by have⟨q,j,e⟩:=CO _ p.1 (aAI H);rw[<-e];exact(E q (aCu j)).1) fun J m=>?_
    have z:=jG s lR J;rw[nZ] at m
    rotate_left
    .intro h;have⟨q,j,e⟩:=CO _ _ h;obtain⟨i,K,rfl⟩:=aBe.1 j;have y:i<k:=by simp at K;omega
     have D:=aBg.1 lY i k sQ0 (by simpa using f) y;simp at D;simp at e;exact D e
    have e:vQ (c.take k)++[(c[k].1,wd c[k].2)]=vQ (c.take (k+1)):=by unfold vQ;rw[UL c k f l.out,aBc];rfl
    rw[e] at m;go_wp2;go_roundw
    case rel=>
     exact⟨k+1,by go_num,oM,m,z,by simpa using r⟩
    case measure=>simp[Go.RowKit.intOf];omega
  .have x:k=c.length:=oM
   subst x;rw[aCa] at u;go_wp2;simp[bodyPost,results,results62,go_sem];exact⟨u,B,t⟩
section
open Go.Maps Go.Sort Go.Shelf
def C0{m n:Nat}(b:m<M)(c:n<M)(h:wd m=wd n):m=n:=by unfold wd at h;simp only[Value.agg.injEq] at h;have a:=congrArg Array.toList h;simp at a;exact QI m n b c a.1 a.2.1 a.2.2.1 a.2.2.2
open Classical in
noncomputable def dw(v:vZ):Nat:=if h:∃k,k<M/\v=wd k then h.choose else 0
def If{k:Nat}(a:k<M):dw (wd k)=k:=by have h:∃j,j<M/\wd k=wd j:=⟨k,a,rfl⟩;unfold dw;rw[dif_pos h];exact(C0 a h.choose_spec.1 h.choose_spec.2).symm
theorem PD:∀{l:K4},(∀k∈l,k<M)->(l.map wd).map dw=l
 | [],_=>rfl
 |k::l,h=>by rw[aBl,aBl,If (h k (aAQ ..)),PD (fun j a=>h j (aAR _ a))]
def Ig:zQ.prog.underlying 133=some (.map 41 41):=(aC 133).tr underlying133
def C1(n:Nat)(hn:1<=n)(lp Bm b:Nat)(l:List (Nat×vZ))(hl:∀p∈l,p.1<M)(J:K4->K6)(hY:∀pre x V,J pre V->pre.length<l.length->YieldAt Fence.wide (n - 1) zQ.prog lp #[wd x] V fun e G=>e=.returned (.bool true)/\J (pre++[x]) G/\KeepsWalks V G)(W:WR)(K:AbidesFrom W.heap.size J)(hm:W.cell? ⟨Bm,0,none⟩=some (.map (some b)))(hM:cR wd W b l)(h0:J [] W):
  CallsIn Fence.wide n zQ.prog 204 #[.func (.yield lp) #[] #[],pq Bm 0] W fun e G=>(∃v,e=.returned v)/\∃a:K4,a.Perm (l.map (·.1))/\J a G:=by
 have a3:=hM.lt;have⟨c,clock,hb,F,hS⟩:=hM;have H:=run_range_map (P:=zQ.prog) W 133 41 41 b c clock Ig hb;have y:=fQ.start hb hS;have s:c.toList.length=l.length:=by have:=congrArg List.length F;simpa using this
 have C:∀e∈c.toList,∃k,k<M/\e.key=wd k:=fun e T=>by have:(e.key,e.val)∈c.toList.map fun e=>(e.key,e.val):=aAI T;rw[F] at this;have⟨p,Y,e1⟩:=aAJ.1 this;exact⟨p.1,hl p Y,(Prod.mk.inj e1).1.symm⟩
 have h:c.toList.map (·.key)=(l.map (·.1)).map wd:=by have:=congrArg (List.map Prod.fst) F;rw[aAS,aAS] at this;rw[aAS];exact this
 refine callsIn_of_wp (qz func204) rfl trivial ?_ rfl;simp only[ntmps204,aCp,aBr,aBN,Nat.reduceAdd,Nat.reduceSub,aCs,aCt,aCJ,aBZ,aBW,aBi]
 gi_wp2
 have E:J [] (W.alloc (.mapIter (some b) clock #[] clock)):=K [] W _ none h0 (World.grownBy_alloc W _ none) (fun r e=>by cases e);generalize W.alloc (.mapIter (some b) clock #[] clock)=w0 at y E⊢
 gi_loopw [] (fun wr=>∃(pre:List MapEntry) (a:K4),fQ wr b W.heap.size c clock pre/\pre.map (·.key)=a.map wd/\(∀k∈a,k<M)/\pre.length+(leftOf c (pre.map (·.born)).toArray).size<=c.size/\J a wr)
  (fun wr=>wr.rangeLeft b W.heap.size)
 case atStart=>exact⟨[],[],y,rfl,sI,(by show 0+(leftOf c _).size<=_;rw[aAM];exact Array.size_filter_le),E⟩
 case round=>
  have⟨pre,a,hI,m,z,a0,w⟩:=hrel;have P:b≠W.heap.size:=oM
  have Q:a.length=pre.length:=by have:=congrArg List.length m;simpa using this.symm
  rcases hI.next P 0 with⟨g,f⟩| ⟨e,o,I,T,f,i,U,L,X⟩
  .gi_wp2
   go_end0
   refine⟨⟨_,rfl⟩,a,?_,w⟩;have h1:=g.map (·.key);rw[m,h] at h1;have h2:=h1.map dw;rw[PD z,PD (fun k hk=>by obtain⟨p,Y,rfl⟩:=aAJ.1 hk;exact hl p Y)] at h2;exact h2
  .have⟨k,S,B⟩:=C e I;have O:J a o:=K a wr o (some W.heap.size) w U (fun r e=>by cases e;exact⟨aAz _,_,hI.it,rfl⟩);have N:=CR T;have q:pre.length<c.size:=oM
   have Z:J a (o.alloc (.ce (wq k) 41)):=K a o _ none O (World.grownBy_alloc o _ none) (fun r e=>by cases e);have d:fQ (o.alloc (.ce (wq k) 41)) b W.heap.size c clock (pre++[e]):=i.xe (Below.heap_alloc _ _ _ (aAu.1 i.map).1) (Below.heap_alloc _ _ _ (aAu.1 i.it).1);have⟨fn,a2,assign,a1,hy,F⟩:=hY a k _ Z (by rw[Q,<-s];simpa using q);have A:e.key=.agg (wq k):=B;rw[A] at f X;unfold wd at hy;clear L
   gi_wp2
   apply F.mono;rintro e' W3 ⟨rfl,R,D⟩
   gi_wp2
   have t:fQ W3 b W.heap.size c clock (pre++[e]):=⟨D.same _ _ d.map rfl,d.st,D.same _ _ d.it rfl,d.sub,d.nd⟩;go_roundw
   case rel=>
    refine⟨pre++[e],a++[k],t,?_,fun j u=>?_,?_,R⟩
    .rw[aBc,aBc,m];simp[B]
    .rcases aAL.1 u with u|u
     .exact z j u
     .rw[aAB.1 u];exact S
    .rw[aBs,List.length_singleton];omega
   case measure=>rw[t.left,hI.left];exact N
def GL(n:Nat)(m:1<=n)(a b:Nat)(l:List (Nat×vZ))(j:∀p∈l,p.1<M)(w:WR)(c:a<w.heap.size)(o:w.cell? ⟨a,0,none⟩=some (.map (some b)))(f:cR wd w b l):
  SeqGives Fence.wide n zQ.prog 204 #[pq a 0] wd (fun e=>e.Perm (l.map (·.1))) l.length w:=fun h J W d k i g=>
 C1 n m h a b l j J i W k ((d.cell (p:=(ad a 0)) c).tr o) (f.below d) g
def C2(n:Nat)(a:Option Nat)(w:WR):CallsIn Fence.wide n zQ.prog 162 #[.map a] w fun e b=>e=.returned (.func (.func 204) #[] #[pq w.heap.size 0])/\b=w.alloc (.cells #[.map a] 133):=by
 refine callsIn_of_wp (qz func162) rfl trivial ?_ rfl;simp only[ntmps162,aCp,aBr,aBN,Nat.reduceAdd,Nat.reduceSub,aCs,aCt,aCJ,aBZ,aBW,aBi]
 gi_wp2
 go_ret;exact⟨rfl,rfl⟩
def wc(k:Nat):K3:=[.int .u64 (aI k 0),.int .u64 (aI k 1),.int .u64 (aI k 2),.int .u64 (aI k 3)]
def gE:K4->K3
 | []=>[]
 |k::l=>wc k++gE l
theorem sV:∀(a b:K4),gE (a++b)=gE a++gE b
 | [],_=>rfl
 |k::a,b=>by rw[aBi,gE,gE,sV a b,aBL]
def C3:∃i z,zQ.prog.info? 41=some i/\i.zero=some z/\i.size=4/\i.bytes=32/\z.cells.size=4:=by
 have e8:(zQ.prog.info? 41).map (·.size)=some 4:=kR
 have b:(zQ.prog.info? 41).map (·.bytes)=some 32:=kR
 have a:((zQ.prog.info? 41).bind (·.zero)).map (·.cells.size)=some 4:=kR
 obtain⟨i,d⟩:∃i,zQ.prog.info? 41=some i:=by
  cases h:zQ.prog.info? 41 with
  |none=>rw[h] at e8;cases e8
  |some i=>exact⟨i,rfl⟩
 rw[d] at e8 b a;replace a:i.zero.map (·.cells.size)=some 4:=a;cases c:i.zero with
 |none=>rw[c] at a;cases a
 |some z=>rw[c] at a;exact⟨i,z,d,c,aAv e8,aAv b,aAv a⟩
def Nh:zQ.prog.underlying 201=some (.slice 41):=(aC 201).tr underlying201
def aDn:Code:=.region 2 #[{dst:=some 5,op:=.alloc 41,type:=0,pos:= "iter.go:51",after:=#[],guard:=none},{dst:=none,op:=.store 41 (.tmp 5) (.tmp 7),type:=0,pos:= "iter.go:51",after:=#[{on:=0,ground:=.data},{on:=0,ground:=.phase}],guard:=none}] false
def aDo:Code:=.block 1 (.region 3 #[{dst:=some 8,op:=.load 201 (.tmp 2),type:=201,pos:= "iter.go:52",after:=#[],guard:=none},{dst:=some 9,op:=.load 41 (.tmp 5),type:=41,pos:= "iter.go:52",after:=#[],guard:=none},{dst:=some 10,op:=.buildSlice 201 1 #[(0,.tmp 9)],type:=201,pos:= "iter.go:52",after:=#[{on:=1,ground:=.data}],guard:=none},{dst:=some 11,op:=.call {callee:=.builtin .append,args:=#[.tmp 8,.tmp 10],argTypes:=#[201,201]},type:=201,pos:= "iter.go:52",after:=#[{on:=0,ground:=.data},{on:=2,ground:=.data}],guard:=none},{dst:=none,op:=.store 201 (.tmp 2) (.tmp 11),type:=0,pos:= "iter.go:52",after:=#[{on:=3,ground:=.data},{on:=3,ground:=.chain},{on:=0,ground:=.phase},{on:=1,ground:=.phase},{on:=2,ground:=.phase},{on:=3,ground:=.phase}],guard:=none}] false)
def Pk(fn:FuncId)(a:vZ)(b D:Nat)(c:LoopState)(pend:Option Code):Loop:=
 {state:=c,pending:=pend,fn,tmps:=#[.slice none 0 0,a,pq b 0,undef,.slice none 0 0,undef,a,undef,undef,undef,undef,undef,undef],params:=#[7],assign:=aDn,body:=aDo,defers:=D}
structure aDr (w0:WR)(fn:FuncId)(sv:vZ)(Bs l D:Nat)(ss:K4)(W:WR):Prop where
 box:∃v,W.heap[Bs]?=ob #[v] 201/\W.ownsRow w0.heap.size 41 4 v ss.length (gE ss)
 L:W.heap[l]?=some (.loop (Pk fn sv Bs D .ready none))
 K:W.heap[D]?=some (.deferred (some []))
 below:Below w0.heap.size w0 W
def aDp(d:WR)(fn:FuncId)(i:vZ)(g l D B:Nat)(m:d.heap.size<=B):AbidesFrom B (aDr d fn i g l D):=fun s W n row h c b=>by
 have a:∀r,row=some r->∃o:Obj,W.heap[r]?=some o/\o.isWalk=true:=fun r e=>(b r e).2;have⟨v,f,j⟩:=h.box;exact⟨⟨v,(grownBy_keeps c a f rfl).tr f,ownsRow_abides_a j c a⟩,(grownBy_keeps c a h.L rfl).tr h.L,(grownBy_keeps c a h.K rfl).tr h.K,
  h.below.grown c h.below.size (fun k e=>aAw m (b k e).1)⟩
def aDs(m:Nat)(w:WR)(fn:FuncId)(E:vZ)(b l D:Nat)(L:b≠l)(a3:D≠l)(b5:D≠b)(b6:w.heap.size<=b)(X:w.heap.size<=l)(N:Nat)(hN:N<1000000000)(i:K4)(x:Nat)(W:WR)(h:aDr w fn E b l D i W)(bi:i.length<N):
    YieldAt Fence.wide m zQ.prog l #[wd x] W fun e W'=>e=.returned (.bool true)/\aDr w fn E b l D (i++[x]) W'/\KeepsWalks W W':=by
  obtain⟨i0,z0,hi,b1,bf,bb,aa⟩:=C3;obtain⟨v,hv,a6⟩:=h.box;refine⟨fn,#[.slice none 0 0,E,pq b 0,ud,.slice none 0 0,ud,E,wd x,ud,ud,ud,ud,ud],aDn,aDo,by simpa[Pk] using run_yield (P:=zQ.prog) (args:=#[wd x]) h.L rfl,roundIn_of_wpIn trivial ?_⟩;obtain⟨t,B⟩:∃t,W.alloc (.cells (wc x).toArray 41)=t:=⟨_,rfl⟩;have bg:cI t W.heap.size 0 (wc x):=by rw[<-B];exact fW W (wc x) 41
  have bd:KeepsWalks W t:=by rw[<-B];exact KeepsWalks.alloc _ _
  have C:Below W.heap.size W t:=by rw[<-B];exact ba
  have G:t.heap[l]?=some (.loop (Pk fn E b D .ready none)):=(C.block l (aAu.1 h.L).1).trans h.L;have b0:t.heap[b]?=ob #[v] 201:=(C.block b (aAu.1 hv).1).trans hv;have ac:t.heap[D]?=some (.deferred (some [])):=(C.block D (aAu.1 h.K).1).trans h.K;have K:=dI a6 C;have T:Bw w t:=h.below.trans (C.mono h.below.size);have b7:∃d,t.heap[W.heap.size]?=ob d 41:=by rw[<-B];exact⟨_,heap_alloc_new W _⟩
  have hl:l<t.heap.size:=(aAu.1 G).1;have a2:=run_beginRound (P:=zQ.prog) G rfl;obtain⟨g,n⟩:∃g,t.putObj l (.loop {Pk fn E b D .ready none with state:=.busy})=g:=⟨_,rfl⟩;rw[n] at a2;have R:t.grownBy g (some l):=by rw[<-n];exact grownBy_putObj_a _ _ _
  have ar:KeepsWalks t g:=by rw[<-n];exact KeepsWalks.putObj _ G rfl
  have I:g.heap[b]?=ob #[v] 201:=by rw[<-n];exact(World.putObj_heap_other L).trans b0
  have Q:g.heap[D]?=some (.deferred (some [])):=by rw[<-n];exact(World.putObj_heap_other a3).trans ac
  have O:g.heap[l]?=some (.loop {Pk fn E b D .ready none with state:=.busy}):=by rw[<-n];exact World.putObj_heap_same hl
  have al:W.heap.size≠l:=by have:=(aAu.1 h.L).1;exact oM
  have y:cI g W.heap.size 0 (wc x):=fun j u V=>(R.cell_far ⟨W.heap.size,0+j,none⟩ (by obtain⟨c,hc⟩:=b7;exact(aAu.1 hc).1) (fun e=>al (by cases e;rfl))).trans (bg j u V);have f:g.ownsRow w.heap.size 41 4 v i.length (gE i):=K.kept R (ownsRow_ne_a K G (fun d e=>by cases e));have H:Bw w g:=T.grown R T.size (fun k e=>by cases e;exact X);obtain⟨bn,br⟩:=cell_of_box_a I;have a0:b<g.heap.size:=(aAu.1 I).1;have b8:l<g.heap.size:=(aAu.1 O).1;have Z:D<g.heap.size:=(aAu.1 Q).1;clear n;unfold aDn;unfold wd
  gi_wp2_with gi_round_op_a
  change ∃Y,Sem.run zQ.prog (Instr.beginRound l) (W.alloc (.cells (wc x).toArray 41))=Result.ok () Y/\_;rw[B];refine⟨g,a2,?_⟩;generalize W.heap.size=xb at y⊢;have x0:=y 0 _ rfl;have x1:=y 1 _ rfl;have x2:=y 2 _ rfl;have x3:=y 3 _ rfl;simp only[aAM] at x0 x1 x2 x3;have M:(g.alloc (.cells (wc x).toArray 41)).ownsRow w.heap.size 41 4 v i.length (gE i):=f.alloc _;have b3:=fW g (wc x) 41;have p:∀{j:Nat} {o:Obj},g.heap[j]?=some o->(∀d,o≠.cells d 41 (0,0))->some j≠v.ownBlock:=fun V ad=>by
    rcases ownsRow_ne_a f V ad with e|e
    · rw[e];simp
    · exact fun e'=>e e'.symm
  unfold aDo
  gi_wp2_with (first
    | (gi_at_builtin;refine wpListIn_append_own _ rfl _ _ 201 rfl w.heap.size 41 i0 z0 4 32 Nh hi b1 bf bb aa dC v i.length (gE i) rfl M ⟨g.heap.size,0,none⟩ 1 1 (wc x) rfl rfl (fun j v V=>by rw[Addr.add_mid];exact b3 j v V) (fun u hu=>by simp only[wc,aAx,aAC,or_false] at hu;rcases hu with rfl|rfl|rfl|rfl<;>rfl) (by simp[maxLen];exact oM) oM (by have:=H.size;simp;exact oM) ?_;intro v' w3 q a1 b9
       have P:w3.heap[b]?=ob #[v] 201:=(a1.block b (by simp;exact oM) (p I (fun d e=>by cases e))).trans ((Below.heap_alloc _ _ b a0).trans I);obtain⟨bs,bm⟩:=cell_of_box_a P;obtain⟨S,a,r,rfl,a8,bj,K,bl,bo,bt⟩:∃S a r,v'=.slice (some ⟨S,0,none⟩) (i.length+1) a/\w.heap.size<=S/\w3.heap[S]?=ob r 41/\i.length+1<=a/\a<=maxLen/\r.size=a*4/\r.toList.take ((i.length+1)*4)=gE i++wc x:=by
         rcases q.2 with⟨_,h0⟩|h'
         · exact absurd h0 oM
         · exact h'
       go_frame)
    |gi_round_op_a)
  have s:(g.alloc (.cells (wc x).toArray 41)).grownBy w3 v.ownBlock:=a1;have U:w3.heap[l]?=some (.loop {Pk fn E b D .ready none with state:=.busy}):=(s.block l (by simp;exact oM) (p O (fun d e=>by cases e))).trans ((Below.heap_alloc _ _ l b8).trans O);have a5:w3.heap[D]?=some (.deferred (some [])):=(s.block D (by simp;exact oM) (p Q (fun d e=>by cases e))).trans ((Below.heap_alloc _ _ D Z).trans Q);obtain⟨w4,z⟩:∃w4,w3.setCell ⟨b,0,none⟩ (.slice (some ⟨S,0,none⟩) (i.length+1) a)=w4:=⟨_,rfl⟩;rw[z];have J:w3.grownBy w4 (some b):=by rw[<-z];exact grownBy_setCell0_a _ _ _
  have b2:w4.heap[b]?=ob #[.slice (some ⟨S,0,none⟩) (i.length+1) a] 201:=by rw[<-z];exact heap_setCell_box_a _ P
  have F:w4.heap[l]?=some (.loop {Pk fn E b D .ready none with state:=.busy}):=(J.block l (aAu.1 U).1 (fun e=>L (by cases e;rfl))).trans U;have a9:w4.heap[D]?=some (.deferred (some [])):=(J.block D (aAu.1 a5).1 (fun e=>b5 (by cases e;rfl))).trans a5;have A:=q.kept J (ownsRow_ne_a q P (fun d e=>by cases e));have bc:l<w4.heap.size:=(aAu.1 F).1;have a4:Bw w w3:=(H.alloc H.size _).grown s (by have:=H.size;simp;exact oM) fun k e=>(f.lt k e).1;have a7:Bw w w4:=a4.grown J a4.size (fun k e=>by cases e;exact b6);have bh:KeepsWalks W w4:=(((bd.trans ar).trans (KeepsWalks.alloc _ _)).trans (KeepsWalks.of_grownBy s (ownsRow_not_walk_a (f.alloc _)))).trans (by rw[<-z];exact KeepsWalks.setCell _ _ _);clear z;refine⟨_,_,run_endRound none F,rfl,⟨⟨_,(World.putObj_heap_other L).trans b2,?_⟩,World.putObj_heap_same bc,(World.putObj_heap_other a3).trans a9,a7.grown (grownBy_putObj_a _ _ _) a7.size (fun k e=>by cases e;exact X)⟩,bh.trans (KeepsWalks.putObj _ F rfl)⟩;have:=A.kept (grownBy_putObj_a w4 l (.loop {{Pk fn E b D .ready none with state:=.busy} with state:=if(none:Option Code).isNone then .ready else .done,pending:=none})) (ownsRow_ne_a A F (fun d e=>by cases e));have b4:gE (i++[x])=gE i++wc x:=by rw[sV,gE,gE,aCb]
  rw[aBs,List.length_singleton,b4];exact this
def WN(n:Nat)(Y:2<=n)(g:Nat)(i:Ff)(L:∀args w,(callFunc g args).run zQ.prog w=.ok (.enter g args) w)(S:K4->Prop)(N:Nat)(V:N<1000000000)(w:WR)(r:SeqGives Fence.wide (n - 1) zQ.prog g i wd S N w):
  CallsIn Fence.wide n zQ.prog 234 #[.slice none 0 0,.func (.func g) #[] i] w fun e E=>∃(v:vZ) (s:K4),e=.returned v/\S s/\E.ownsRow w.heap.size 41 4 v s.length (gE s)/\Bw w E:=by
 have J:1<=n:=oM
 refine callsIn_of_wp_marks (qz func234) rfl trivial ?_ rfl;simp only[Tryz.ntmps234,aCp,aBr,aBN,Nat.reduceAdd,Nat.reduceSub,aCs,aCt,aCJ,aBZ,aBW,aBi]
 gi_wp2
 refine wpIn_rangeFunc ?_;intro fn R;obtain⟨a,h⟩:∃a,w.alloc (.cells #[.slice none 0 0] 201)=a:=⟨_,rfl⟩;have A:a.heap.size=w.heap.size+1:=by rw[<-h];simp
 have D:a.heap[w.heap.size]?=ob #[.slice none 0 0] 201:=by rw[<-h];exact World.alloc_heap_new w _
 have o:Below w.heap.size w a:=by rw[<-h];exact(Below.refl _ w).alloc lR _
 rw[h];obtain⟨f,b⟩:∃f,(a.alloc (.deferred (some []))).alloc (.loop (Pk fn (.func (.func g) #[] i) w.heap.size a.heap.size .ready none))=f:=⟨_,rfl⟩;have y:∀k,k<a.heap.size->f.heap[k]?=a.heap[k]?:=fun k I=>by rw[<-b];exact(Below.heap_alloc _ _ k (by simp;exact oM)).trans (Below.heap_alloc _ _ k I)
 have p:Below w.heap.size w f:=by rw[<-b];exact(o.alloc o.size _).alloc (by have:=o.size;simp;exact oM) _
 have M:f.heap.size=a.heap.size+2:=by rw[<-b];simp
 have G:aDr w fn (.func (.func g) #[] i) w.heap.size (a.heap.size+1) a.heap.size [] f:=
  ⟨⟨_,(y w.heap.size oM).trans D,⟨rfl,.inl ⟨rfl,rfl⟩⟩⟩,
   by rw[<-b];have:=World.alloc_heap_new (a.alloc (.deferred (some []))) (.loop (Pk fn (.func (.func g) #[] i) w.heap.size a.heap.size .ready none));rwa[World.size_alloc] at this,
   by rw[<-b];exact(Below.heap_alloc _ _ _ sI).trans (World.alloc_heap_new a _),p⟩
 refine⟨a.heap.size+1,[{target:=.collected a.heap.size,args:=#[]}],f,{target:=.fn (.func g) i,args:=#[.func (.yield (a.heap.size+1)) #[] #[]]},f,g,
  #[.func (.yield (a.heap.size+1)) #[] #[]]++i,f,?_,?_,?_,?_,fun _=>J,?_⟩
 .rw[<-b];exact run_enterLoop_outer _ _ _ _ _
 .simp[resolve,go_sem]
 .intro X K;trivial
 .simp[invoke,go_sem,L]
 .refine(r (a.heap.size+1) (aDr w fn (.func (.func g) #[] i) w.heap.size (a.heap.size+1) a.heap.size) f p (aDp _ _ _ _ _ _ _ p.size)
    (fun pre x W P O=>aDs (n - 1 - 1) w fn _ w.heap.size (a.heap.size+1) a.heap.size oM oM oM lR oM N V pre x W P O) G).mono ?_
  rintro e F ⟨⟨v0,rfl⟩,s,T,q⟩;obtain⟨v,Q,l⟩:=q.box;have j:=run_endLoop (P:=zQ.prog) q.L (by simp[Pk]);obtain⟨m,d⟩:∃m,F.putObj (a.heap.size+1) (.loop {Pk fn (.func (.func g) #[] i) w.heap.size a.heap.size .ready none with state:=.exhausted})=m:=⟨_,rfl⟩;rw[d] at j;have u:F.grownBy m (some (a.heap.size+1)):=by rw[<-d];exact grownBy_putObj_a _ _ _
  have C:m.heap[w.heap.size]?=ob #[v] 201:=by rw[<-d];exact(World.putObj_heap_other oM).trans Q
  have t:m.heap[a.heap.size]?=some (.deferred (some [])):=by rw[<-d];exact(World.putObj_heap_other oM).trans q.K
  have c:=l.kept u (ownsRow_ne_a l q.L (fun B e=>by cases e));have z:Bw w m:=q.below.grown u q.below.size (fun k e=>by cases e;exact oM);obtain⟨U,H⟩:=cell_of_box_a C;clear d;refine⟨none,m,j,?_⟩
  gi_wp2
  rw[<-A];refine⟨sI,.inl ⟨_,_,rfl,run_takeDeferred t,?_⟩⟩;exact⟨_,results_tmp rfl _ _ _,v,s,rfl,T,c.kept (grownBy_putObj_a _ _ _) (ownsRow_ne_a c t (fun B e=>by cases e)),z.grown (grownBy_putObj_a _ _ _) z.size (fun k e=>by cases e;exact oM)⟩
def WO(n:Nat)(o:3<=n)(g:Nat)(f:Ff)(i:∀args w,(callFunc g args).run zQ.prog w=.ok (.enter g args) w)(S:K4->Prop)(N:Nat)(l:N<1000000000)(w:WR)(a:SeqGives Fence.wide (n - 1 - 1) zQ.prog g f wd S N w):
  CallsIn Fence.wide n zQ.prog 202 #[.func (.func g) #[] f] w fun e d=>∃(v:vZ) (b:K4),e=.rt v/\S b/\d.ownsRow w.heap.size 41 4 v b.length (gE b)/\Bw w d:=by
 have m:1<=n:=oM
 have j:Fence.wide.fn 234:=trivial;refine callsIn_of_wp (qz func202) rfl trivial ?_ rfl;simp only[ntmps202,aCp,aBr,aBN,Nat.reduceAdd,Nat.reduceSub,aCs,aCt,aCJ,aBZ,aBW,aBi]
 gi_wp2_with (gi_at_call 234;apply(WN (n - 1) oM g f i S N l _ a).mono;rintro e d ⟨v,b,rfl,k,c,h⟩)
 go_ret;exact⟨v,b,rfl,k,c,h⟩
end
section
attribute [local go_sem] wd
def XM(c:List (Nat×Nat))(a:yj)(cap:Nat)(w:WR)(C:c=[]\/∃b o,a=some (ad b o)/\fO w b o c)(L:c.length<2199023255552)(z:∀p∈c,p.1<M):
  Cq 95 #[.sl a c.length cap] w fun e A=>e=.rt (.bool (decide (c.map (·.1)).Nodup))/\Bw w A:=by
 have f:zQ.prog.underlying 233=some (.map 41 179):=(aC 233).tr underlying233;have E:=fun W=>uD f c.length W;go_enter (qz func95),ntmps95;go_wp2;go_loopw [11] (fun i wr=>∃k:Nat,i=vI k/\k<=c.length/\lT wd wr w.heap.size (nI (.agg #[]) ((c.take k).map (·.1)))/\Bw w wr/\w.heap.size<wr.heap.size) (fun i _=>c.length - (Go.RowKit.intOf i).toNat)
 case atStart=>
  exact⟨0,rfl,aBa _,⟨#[],0,by show(w.heap.push _)[w.heap.size]?=_;rw[aAT],rfl⟩,ba,sI⟩
 case round=>
  obtain⟨k,rfl,H,m,u,q⟩:=hrel;by_cases g:k<c.length
  .have v:(k:Int)<(c.length:Int):=oM
   obtain⟨b,o,rfl,t⟩:=C.resolve_left (fun h=>by subst h;simp at g);have d:=(t.below u) k c[k] (aAG g);have B:=d 0 _ rfl;have J:=d 1 _ rfl;have c2:=d 2 _ rfl;have c3:=d 3 _ rfl;have c4:=d 4 _ rfl;have K:=d 5 _ rfl;have N:=d 6 _ rfl;have I:=d 7 _ rfl;rw[aBd] at B;clear d;go_wp2;refine nU gT f (k:=c[k].1) (m.aL _) (z _ (aBf g)) (ZV (ok:=(· <M)) _ _ (fun x G=>by obtain⟨p,D,rfl⟩:=aAJ.1 G;exact z p (aCu D))) fun F j=>?_;have s:=jG ((u.aL (aBQ q) (.ce (bX c[k]).toArray 72))) lR F;rw[<-oZ,yN (fun p:Nat×Nat=>p.1) c k g] at j;have l:w.heap.size<(wr.heap.push (.ce (bX c[k]).toArray 72)).size:=by simp;omega
   go_wp2;go_roundw
   case rel=>
    exact⟨k+1,by go_num,oM,j,s,by simpa using l⟩
   case measure=>simp[Go.RowKit.intOf];omega
  .have n:k=c.length:=oM
   subst n;rw[aCa] at m;have y:=mS f m;go_wp2;have lY:=IU (Value.agg #[]) (c.map (·.1));rw[aBB] at lY;have r:((↑(nI (Value.agg #[]) (List.map (fun x=>x.fst) c)).length:Int)==(↑c.length:Int))=decide (c.map (·.1)).Nodup:=by rw[Bool.eq_iff_iff,beq_iff_eq,decide_eq_true_iff,<-lY.2];omega
   simp[bodyPost,results,results95,go_sem];exact⟨by rw[r],u⟩
def LP(d:bF)(f:SV)(w:WR)(x:d.bE=[]\/∃m n,f.a=some (ad m n)/\fO w m n d.bE)(u:d.bE.length<2199023255552)(v:∀p∈d.bE,p.1<M):
  Cq 57 #[.agg (aV d ⟨f.a,d.bE.length,f.c⟩).toArray] w fun e l=>e=.rt (.bool (decide (iD d)))/\Bw w l:=by
 unfold aV;have c:∀o,Bw w (w.aL o):=fun o=>bR.aL lR o;by_cases i:1<=d.id
 rotate_left
 .have a:decide (iD d)=false:=decide_eq_false fun h=>absurd h.1 i;rw[a];go_enter (qz func57),ntmps57;go_wp2;go_ret;exact⟨rfl,c _⟩
 by_cases g:d.id<=999999
 rotate_left
 .have a:decide (iD d)=false:=decide_eq_false fun h=>absurd h.2.1 g;rw[a];go_enter (qz func57),ntmps57;go_wp2;go_ret;exact⟨rfl,c _⟩
 by_cases h3:0<=d.nonce
 rotate_left
 .have a:decide (iD d)=false:=decide_eq_false fun h=>absurd h.2.2.1 h3;rw[a];go_enter (qz func57),ntmps57;go_wp2;go_ret;exact⟨rfl,c _⟩
 by_cases h4:d.nonce<=4611686018427387904
 rotate_left
 .have a:decide (iD d)=false:=decide_eq_false fun h=>absurd h.2.2.2.1 h4;rw[a];go_enter (qz func57),ntmps57;go_wp2;go_ret;exact⟨rfl,c _⟩
 by_cases q:(d.code.size:Int)<=2000
 rotate_left
 .have a:decide (iD d)=false:=decide_eq_false fun h=>absurd h.2.2.2.2.1 q;rw[a];go_enter (qz func57),ntmps57;go_wp2;go_ret;exact⟨rfl,c _⟩
 by_cases r:(d.bE.length:Int)<=64
 rotate_left
 .have a:decide (iD d)=false:=decide_eq_false fun h=>absurd h.2.2.2.2.2.1 r;rw[a];go_enter (qz func57),ntmps57;go_wp2;go_ret;exact⟨rfl,c _⟩
 have t:decide (iD d)=decide (d.bE.map (·.1)).Nodup:=by
  by_cases j:(d.bE.map (·.1)).Nodup
  .have k:iD d:=⟨i,g,h3,h4,q,r,j⟩;rw[decide_eq_true j,decide_eq_true k]
  .have k:¬iD d:=fun h=>j h.2.2.2.2.2.2;rw[decide_eq_false j,decide_eq_false k]
 rw[t];go_enter (qz func57),ntmps57;go_wp2_with (go_at_call 95;apply(XM d.bE f.a f.c _ (x.imp id fun⟨b,o,i,g⟩=>⟨b,o,i,g.below (c _)⟩) u v).mono;rintro e l ⟨rfl,s⟩)
 simp[bodyPost,results,results57,go_sem];exact(c _).tr (s.mono (c _).size)
def km(c:List (bF×SV))(a:yj)(cap:Nat)(w:WR)(A:c=[]\/∃b o,a=some (ad b o)/\nS w b o c)(I:c.length<2199023255552):
  Cq 58 #[.sl a c.length cap] w fun e z=>e=.rt (.bool (decide (c.map (·.1.id)).Nodup))/\Bw w z:=by
 have g:zQ.prog.underlying 125=some (.map 3 179):=(aC 125).tr underlying125;have C:=fun W=>uD g c.length W;go_enter (qz func58),ntmps58;go_wp2;go_loopw [11] (fun i wr=>∃k:Nat,i=vI k/\k<=c.length/\lT (fun x:Int=>Value.int .i64 x) wr w.heap.size (nI (.agg #[]) ((c.take k).map (·.1.id)))/\Bw w wr/\w.heap.size<wr.heap.size) (fun i _=>c.length - (Go.RowKit.intOf i).toNat)
 case atStart=>
  exact⟨0,rfl,aBa _,⟨#[],0,by show(w.heap.push _)[w.heap.size]?=_;rw[aAT],rfl⟩,ba,sI⟩
 case round=>
  obtain⟨k,rfl,E,m,u,q⟩:=hrel;by_cases f:k<c.length
  .have v:(k:Int)<(c.length:Int):=oM
   obtain⟨b,o,rfl,t⟩:=A.resolve_left (fun h=>by subst h;simp at f);have d:=(t.below u) k c[k] (aAG f);have B:=d 0 _ rfl;have G:=d 1 _ rfl;have c2:=d 2 _ rfl;have c3:=d 3 _ rfl;have c4:=d 4 _ rfl;have H:=d 5 _ rfl;have J:=d 6 _ rfl;have F:=d 7 _ rfl;rw[aBd] at B;clear d;go_wp2;refine nU pg g (k:=c[k].1.id) (m.aL _) trivial (fun _ _=>trivial) fun D j=>?_;have s:=jG ((u.aL (aBQ q) (.ce #[vI c[k].1.id,vU (aI c[k].1.bal 0),vU (aI c[k].1.bal 1),vU (aI c[k].1.bal 2),vU (aI c[k].1.bal 3),vI c[k].1.nonce,.string c[k].1.code,.sl c[k].2.a c[k].2.n c[k].2.c] 52))) lR D;rw[<-oZ,yN (fun p:bF×SV=>p.1.id) c k f] at j;have l:w.heap.size<(wr.heap.push (.ce #[vI c[k].1.id,vU (aI c[k].1.bal 0),vU (aI c[k].1.bal 1),vU (aI c[k].1.bal 2),vU (aI c[k].1.bal 3),vI c[k].1.nonce,.string c[k].1.code,.sl c[k].2.a c[k].2.n c[k].2.c] 52)).size:=by simp;omega
   go_wp2;go_roundw
   case rel=>
    exact⟨k+1,by go_num,oM,j,s,by simpa using l⟩
   case measure=>simp[Go.RowKit.intOf];omega
  .have n:k=c.length:=oM
   subst n;rw[aCa] at m;have y:=mS g m;go_wp2;have lY:=IU (Value.agg #[]) (c.map (·.1.id));rw[aBB] at lY;have r:((↑(nI (Value.agg #[]) (List.map (fun x=>x.fst.id) c)).length:Int)==(↑c.length:Int))=decide (c.map (·.1.id)).Nodup:=by rw[Bool.eq_iff_iff,beq_iff_eq,decide_eq_true_iff,<-lY.2];omega
   simp[bodyPost,results,results58,go_sem];exact⟨by rw[r],u⟩
def ko(c:List (bF×SV))(a:yj)(cap:Nat)(w:WR)(O:c=[]\/∃b o,a=some (ad b o)/\nS w b o c)(Y:c.length<2199023255552)(S:∀p∈c,p.1.bal<M):
  Cq 59 #[.sl a c.length cap] w fun e K=>e=.rt (.bool (decide (total c<M)))/\Bw w K:=by
 go_enter (qz func59),ntmps59;go_wp2;go_loopw [9] (fun i wr=>∃k:Nat,i=vI k/\k<=c.length/\total (c.take k)<M/\R4 wr w.heap.size (total (c.take k))/\Bw w wr) (fun i _=>c.length - (Go.RowKit.intOf i).toNat)
 case atStart=>
  refine⟨0,rfl,aBa _,(by decide:(0:Nat)<M),?_,ba⟩;have e:total (c.take 0)=0:=rfl;rw[e];have E:(w.nc wz 41).heap[w.heap.size]?=some (.ce wz 41):=by show(w.heap.push _)[w.heap.size]?=_;rw[aAT]
  constructor;iterate 4 simp only[World.cell?,E];rfl
  .intro j;simp only[World.frozen?,E];simp
  .simp
 case round=>
  obtain⟨k,rfl,X,s,T,t⟩:=hrel;by_cases f:k<c.length
  .have F:(k:Int)<(c.length:Int):=oM
   obtain⟨b,o,rfl,A⟩:=O.resolve_left (fun h=>by subst h;simp at f);have d:=(A.below t) k c[k] (aAG f);have H:=d 0 _ rfl;have P:=d 1 _ rfl;have c2:=d 2 _ rfl;have c3:=d 3 _ rfl;have c4:=d 4 _ rfl;have R:=d 5 _ rfl;have U:=d 6 _ rfl;have N:=d 7 _ rfl;rw[aBd] at H;clear d;have⟨r0,r1,r2,D,G,m⟩:=T;have B:=S _ (aBf f);have q:=NY c k f;go_wp2_with fail;apply(sum (total (c.take k)) c[k].1.bal s B _).mono;rintro e w1 ⟨rfl,r⟩;have g:Bw wr w1:=(ba).tr (r.mono sI);have⟨I,V,L,Q,u,l⟩:=(R4.mk r0 r1 r2 D G m).below g;have n:Bw w w1:=t.tr (g.mono t.size);clear r g r0 r1 r2 D G m H P c2 c3 c4 R U N;by_cases v:total (c.take (k+1))<M
   .have C:(total (c.take k)+c[k].1.bal) / M=0:=aDg oM;have y:(total (c.take k)+c[k].1.bal) % M=total (c.take (k+1)):=by rw[q];exact aBS oM
    rw[C,y];go_wp2;go_roundw
    case rel=>
     refine⟨k+1,by go_num,oM,v,?_,?_⟩
     .rw[q];constructor;iterate 4 simp[go_sem, *]
      .intro j;simp[go_sem,u]
      .simpa using l
     .exact(((n.sC (p:=(ad w.heap.size 0)) lR _).sC (p:=(ad w.heap.size 1)) lR _).sC (p:=(ad w.heap.size 2)) lR _).sC (p:=(ad w.heap.size 3)) lR _
    case measure=>simp[Go.RowKit.intOf];omega
   .have z:(total (c.take k)+c[k].1.bal) / M=1:=by
     have:M<=total (c.take k)+c[k].1.bal:=oM
     rw[Nat.div_eq_iff dC];omega
    have J:=ZW c (k+1);rw[z];go_wp2;simp[bodyPost,results,results59,go_sem];refine⟨oM,?_⟩;exact(((n.sC (p:=(ad w.heap.size 0)) lR _).sC (p:=(ad w.heap.size 1)) lR _).sC (p:=(ad w.heap.size 2)) lR _).sC (p:=(ad w.heap.size 3)) lR _
  .have x:k=c.length:=oM
   subst x;rw[aCa] at s;have W:decide (total c<M)=true:=decide_eq_true s;go_wp2;simp[bodyPost,results,results59,go_sem];exact⟨s,t⟩
def uE.kq{w b:WR}{a:yj}{c:List (bF×SV)}(h:uE w a c)(d:Bw w b):uE b a c:=h.below d
def LQ(c:List (bF×SV))(a:yj)(cap:Nat)(w:WR)(u:uE w a c):
  Cq 34 #[.sl a c.length cap] w fun e S=>e=.rt (.bool (decide (gM (c.map (·.1)))))/\Bw w S:=by
 have Q:=u.len;by_cases E:c.length<=64
 rotate_left
 .have B:¬(c.length:Int)<=64:=oM
  have m:¬gM (c.map (·.1)):=fun h=>E (by simpa using h.1);go_enter (qz func34),ntmps34;go_wp2;simp[bodyPost,results,results34,go_sem];exact Below.refl _ _
 have B:(c.length:Int)<=64:=oM
 go_enter (qz func34),ntmps34;go_wp2;go_loopw [10] (fun i wr=>∃k:Nat,i=vI k/\k<=c.length/\(∀p∈c.take k,iD p.1)/\Bw w wr) (fun i _=>c.length - (Go.RowKit.intOf i).toNat)
 case atStart=>
  exact⟨0,rfl,aBa _,sI,Below.refl _ _⟩
 case round=>
  obtain⟨k,rfl,hk,x,z⟩:=hrel;by_cases n:k<c.length
  .have L:(k:Int)<(c.length:Int):=oM
   have l:=aBf n;obtain⟨b,o,rfl,D⟩:=u.acc.resolve_left (fun h=>by subst h;simp at n);have f:=(D.below z) k c[k] (aAG n);have P:=f 0 _ rfl;have Y:=f 1 _ rfl;have c2:=f 2 _ rfl;have c3:=f 3 _ rfl;have c4:=f 4 _ rfl;have Z:=f 5 _ rfl;have c6:=f 6 _ rfl;have O:=f 7 _ rfl;rw[aBd] at P;clear f;have⟨G,C⟩:=u.sl _ l;rw[G] at O;go_wp2_with fail;have y:=fun(W:WR) (U:c[k].1.bE=[]\/∃K N,c[k].2.a=some (ad K N)/\fO W K N c[k].1.bE)=>LP c[k].1 c[k].2 W U (u.num _ l) fun q V=>(u.key _ l q V).1;unfold aV at y;apply(y _ (C.imp id fun⟨b,o,X,T⟩=>⟨b,o,X,(T.below z).below ba⟩)).mono;rintro e w1 ⟨rfl,s⟩;have g:Bw w w1:=z.tr (((ba).tr (s.mono sI)).mono z.size);clear y P Y c2 c3 c4 Z c6 O s;by_cases j:iD c[k].1
   .rw[decide_eq_true j];go_wp2;go_roundw
    case rel=>
     refine⟨k+1,by go_num,oM,fun p r=>?_,g⟩;rw[aDe,aAG n] at r;rcases aAL.1 r with r|r
     .exact x p r
     .simp at r;rw[r];exact j
    case measure=>simp[Go.RowKit.intOf];omega
   .rw[decide_eq_false j];have m:¬gM (c.map (·.1)):=fun h=>j (h.2.1 _ (aAI l));go_wp2;simp[bodyPost,results,results34,go_sem,m];exact g
  .have H:k=c.length:=oM
   subst H;rw[aCa] at x;go_wp2_with fail;apply(km c a cap _ (u.kq z).acc Q).mono;rintro e w1 ⟨rfl,s⟩;have g:Bw w w1:=z.tr (s.mono z.size);have t:(c.map (·.1)).map (·.id)=c.map (·.1.id):=sI
   have v:((c.map (·.1)).map (·.bal)).sum=total c:=by simp[total];rfl
   by_cases lY:(c.map (·.1.id)).Nodup
   .rw[decide_eq_true lY];go_wp2_with fail;apply(ko c a cap _ (u.kq g).acc Q u.bal).mono;rintro e w2 ⟨rfl,J⟩;have I:Bw w w2:=g.tr (J.mono g.size);have hs:decide (gM (c.map (·.1)))=decide (total c<M):=by
     by_cases F:total c<M
     .have C:gM (c.map (·.1)):=⟨by simpa using E,fun d R=>by obtain⟨p,r,rfl⟩:=aAJ.1 R;exact x p r,by rw[t];exact lY,by rw[v];exact F⟩;rw[decide_eq_true F,decide_eq_true C]
     .have C:¬gM (c.map (·.1)):=fun h=>F (by rw[<-v];exact h.2.2.2);rw[decide_eq_false F,decide_eq_false C]
    go_wp2;have A:total c<M ↔ gM (c.map (·.1)):=by rw[<-decide_eq_true_iff (p:=total c<M),<-hs,decide_eq_true_iff]
    simp[bodyPost,results,results34,go_sem];exact⟨A,I⟩
   .have m:¬gM (c.map (·.1)):=fun h=>lY (by rw[<-t];exact h.2.2.1);rw[decide_eq_false lY];go_wp2;simp[bodyPost,results,results34,go_sem,m];exact g
end
end Go.Mark
namespace Go.Proofs
section
open Go.Mark Go.RowKit Go.Sort Go.Shelf
open Tryz
def Z6:Go.Shelf.Ren:=⟨fun|6=>203|15=>160|14=>235|28=>200|29=>201|20=>265|21=>266|22=>267|23=>268|24=>269|25=>270|26=>271|27=>272|46=>308|47=>229|48=>230|49=>309|50=>310|57=>339|n=>n,fun|22=>201|24=>41|25=>252|3=>3|39=>93|0=>0|53=>187|55=>39|4=>4|46=>280|45=>279|50=>284|5=>5|9=>9|66=>308|70=>311|76=>339|77=>340|n=>n,fun|n=>n⟩
def Yl:Go.Proofs.SlLaysF0.n6 zQ.prog Z6 where
 mixed:=kR
 f6:=⟨ "slices.SortFunc[[]purser/api.Word,purser/api.Word]",dC,(qz func203).tr (congrArg some kR)⟩
 f14:=⟨ "slices.pdqsortCmpFunc[purser/api.Word]",dC,(qz func235).tr (congrArg some kR)⟩
 f15:=(qz func160).tr (congrArg some kR)
 f20:=⟨ "slices.insertionSortCmpFunc[purser/api.Word]",dC,(qz func265).tr (congrArg some kR)⟩
 f21:=⟨ "slices.heapSortCmpFunc[purser/api.Word]",dC,(qz func266).tr (congrArg some kR)⟩
 f22:=⟨ "slices.breakPatternsCmpFunc[purser/api.Word]",dC,(qz func267).tr (congrArg some kR)⟩
 f23:=⟨ "slices.choosePivotCmpFunc[purser/api.Word]",dC,(qz func268).tr (congrArg some kR)⟩
 f24:=⟨ "slices.reverseRangeCmpFunc[purser/api.Word]",dC,(qz func269).tr (congrArg some kR)⟩
 f25:=⟨ "slices.partialInsertionSortCmpFunc[purser/api.Word]",dC,(qz func270).tr (congrArg some kR)⟩
 f26:=⟨ "slices.partitionEqualCmpFunc[purser/api.Word]",dC,(qz func271).tr (congrArg some kR)⟩
 f27:=⟨ "slices.partitionCmpFunc[purser/api.Word]",dC,(qz func272).tr (congrArg some kR)⟩
 f28:=(qz func200).tr (congrArg some kR)
 f29:=(qz func201).tr (congrArg some kR)
 f46:=⟨ "slices.siftDownCmpFunc[purser/api.Word]",dC,(qz func308).tr (congrArg some kR)⟩
 f47:=(qz func229).tr (congrArg some kR)
 f48:=(qz func230).tr (congrArg some kR)
 f49:=⟨ "slices.medianAdjacentCmpFunc[purser/api.Word]",dC,(qz func309).tr (congrArg some kR)⟩
 f50:=⟨ "slices.medianCmpFunc[purser/api.Word]",dC,(qz func310).tr (congrArg some kR)⟩
 f57:=⟨ "slices.order2CmpFunc[purser/api.Word]",dC,(qz func339).tr (congrArg some kR)⟩
 t0:=(aC 0).tr underlying0
 a0:=fun w=>(aR 0 w).tr (isAgg0 w)
 z0:=fun w=>(aN 0 w).tr (sizeOf0 w)
 v0:=fun w=>(aK 0 w).tr (zeroValue0 w)
 t3:=(aC 3).tr underlying3
 a3:=fun w=>(aR 3 w).tr (isAgg3 w)
 z3:=fun w=>(aN 3 w).tr (sizeOf3 w)
 v3:=fun w=>(aK 3 w).tr (zeroValue3 w)
 t4:=(aC 4).tr underlying4
 a4:=fun w=>(aR 4 w).tr (isAgg4 w)
 z4:=fun w=>(aN 4 w).tr (sizeOf4 w)
 v4:=fun w=>(aK 4 w).tr (zeroValue4 w)
 t5:=(aC 5).tr underlying5
 a5:=fun w=>(aR 5 w).tr (isAgg5 w)
 z5:=fun w=>(aN 5 w).tr (sizeOf5 w)
 v5:=fun w=>(aK 5 w).tr (zeroValue5 w)
 t9:=(aC 9).tr underlying9
 a9:=fun w=>(aR 9 w).tr (isAgg9 w)
 z9:=fun w=>(aN 9 w).tr (sizeOf9 w)
 v9:=fun w=>(aK 9 w).tr (zeroValue9 w)
 t22:=(aC 201).tr underlying201
 a22:=fun w=>(aR 201 w).tr (isAgg201 w)
 z22:=fun w=>(aN 201 w).tr (sizeOf201 w)
 v22:=fun w=>(aK 201 w).tr (zeroValue201 w)
 t25:=(aC 252).tr underlying252
 a25:=fun w=>(aR 252 w).tr (isAgg252 w)
 z25:=fun w=>(aN 252 w).tr (sizeOf252 w)
 v25:=fun w=>(aK 252 w).tr (zeroValue252 w)
 t39:=(aC 93).tr underlying93
 a39:=fun w=>(aR 93 w).tr (isAgg93 w)
 z39:=fun w=>(aN 93 w).tr (sizeOf93 w)
 v39:=fun w=>(aK 93 w).tr (zeroValue93 w)
 t45:=(aC 279).tr underlying279
 a45:=fun w=>(aR 279 w).tr (isAgg279 w)
 z45:=fun w=>(aN 279 w).tr (sizeOf279 w)
 v45:=fun w=>(aK 279 w).tr (zeroValue279 w)
 t46:=(aC 280).tr underlying280
 a46:=fun w=>(aR 280 w).tr (isAgg280 w)
 z46:=fun w=>(aN 280 w).tr (sizeOf280 w)
 v46:=fun w=>(aK 280 w).tr (zeroValue280 w)
 t50:=(aC 284).tr underlying284
 a50:=fun w=>(aR 284 w).tr (isAgg284 w)
 z50:=fun w=>(aN 284 w).tr (sizeOf284 w)
 v50:=fun w=>(aK 284 w).tr (zeroValue284 w)
 t53:=(aC 187).tr underlying187
 a53:=fun w=>(aR 187 w).tr (isAgg187 w)
 z53:=fun w=>(aN 187 w).tr (sizeOf187 w)
 v53:=fun w=>(aK 187 w).tr (zeroValue187 w)
 t55:=(aC 39).tr underlying39
 a55:=fun w=>(aR 39 w).tr (isAgg39 w)
 z55:=fun w=>(aN 39 w).tr (sizeOf39 w)
 v55:=fun w=>(aK 39 w).tr (zeroValue39 w)
 t66:=(aC 308).tr underlying308
 a66:=fun w=>(aR 308 w).tr (isAgg308 w)
 z66:=fun w=>(aN 308 w).tr (sizeOf308 w)
 v66:=fun w=>(aK 308 w).tr (zeroValue308 w)
 t70:=(aC 311).tr underlying311
 a70:=fun w=>(aR 311 w).tr (isAgg311 w)
 z70:=fun w=>(aN 311 w).tr (sizeOf311 w)
 v70:=fun w=>(aK 311 w).tr (zeroValue311 w)
 t76:=(aC 339).tr underlying339
 a76:=fun w=>(aR 339 w).tr (isAgg339 w)
 z76:=fun w=>(aN 339 w).tr (sizeOf339 w)
 v76:=fun w=>(aK 339 w).tr (zeroValue339 w)
 t77:=(aC 340).tr underlying340
 a77:=fun w=>(aR 340 w).tr (isAgg340 w)
 z77:=fun w=>(aN 340 w).tr (sizeOf340 w)
 v77:=fun w=>(aK 340 w).tr (zeroValue340 w)
end
end Go.Proofs
