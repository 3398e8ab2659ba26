import Derived.Deep.CutRange
import Derived.Deep.WholeRow
import Derived.Deep.AppendLies
import Derived.Deep.RegionHeldLaw
import Derived.Test.YtbephahokhnccaaGreatDoorJ4
set_option linter.all false
set_option maxRecDepth 100000
set_option maxHeartbeats 4000000
namespace Go.Mark
open Go.RowKit Go.Proofs Go.Proofs.Tryz
variable{a a1 a2 a3 a' a4 a5:Act}{L listed:Array Bool}{ops:DQ}{c:Ff}{ss:List (Nat×Nat)}{xs:K3}{fuel n base size b i g:Nat}{f:Nat×Nat}{oi o:Oper}{r:Option Nat}{d:Option Tmp}{P:K5}{e t:Fh}{v x:vZ}{w W w' W':WR}
section
def Lc(b d h e a g f c:Int):Bool:=b==a && (d==g && (h==f && e==c))
def Ls:zQ.prog.underlying 41=some (.array 4 39):=(aC 41).tr underlying41
def O9:zQ.prog.underlying 39=some (.int .u64):=(aC 39).tr underlying39
def u3:zQ.prog.underlying 3=some (.int .i64):=(aC 3).tr underlying3
def z26(w:WR):(Go.sizeOf 39).run zQ.prog w=.ok 1 w:=(aN 39 w).tr (sizeOf39 w)
def parts(a b d c:Int)(w:WR):(part 39 #[.int .u64 a,.int .u64 b,.int .u64 d,.int .u64 c] 0).run zQ.prog w=.ok (.int .u64 a) w/\(part 39 #[.int .u64 a,.int .u64 b,.int .u64 d,.int .u64 c] 1).run zQ.prog w=.ok (.int .u64 b) w/\
  (part 39 #[.int .u64 a,.int .u64 b,.int .u64 d,.int .u64 c] 2).run zQ.prog w=.ok (.int .u64 d) w/\(part 39 #[.int .u64 a,.int .u64 b,.int .u64 d,.int .u64 c] 3).run zQ.prog w=.ok (.int .u64 c) w:=by
 refine⟨?_,?_,?_,?_⟩<;>kernel_rfl
def yI(d:Nat)(a f j g b i h c:Int)(w:WR):
  (Op.equalIn (d+2) 41 (.agg #[.int .u64 a,.int .u64 f,.int .u64 j,.int .u64 g]) (.agg #[.int .u64 b,.int .u64 i,.int .u64 h,.int .u64 c])).run zQ.prog w=.ok (Lc a f j g b i h c) w:=by
 have e:=fun(x y:Int) (w:WR)=>run_equalIn_int (P:=zQ.prog) w d 39 .u64 .u64 x y O9;have p:=parts;unfold Lc;rw[Op.equalIn];simp only[Sem.run_bind,run_underlying Ls,Result.andThen_ok,z26];simp;rw[show List.range' 0 4=[0,1,2,3] from rfl];by_cases m:a=b<;>by_cases l:f=i<;>by_cases k:j=h<;>by_cases h3:g=c<;>
  simp[p,e,m,l,k,h3]
def FG(m n:Nat)(d:m<M)(e:n<M):Lc (aI m 0) (aI m 1) (aI m 2) (aI m 3) (aI n 0) (aI n 1) (aI n 2) (aI n 3)=decide (m=n):=by
 unfold Lc;by_cases h:m=n
 .subst h;simp
 .by_cases c:aI m 0=aI n 0
  .by_cases b:aI m 1=aI n 1
   .by_cases a:aI m 2=aI n 2
    .by_cases h3:aI m 3=aI n 3
     .exact absurd (QI m n d e c b a h3) h
     .simp[h,h3]
    .simp[h,a]
   .simp[h,b]
  .simp[h,c]
def rW(m n:Nat)(a:m<M)(b:n<M)(w:WR):(Op.equal 41 (wd m) (wd n)).run zQ.prog w=.ok (decide (m=n)) w:=by rw[<-FG m n a b];exact yI 9998 _ _ _ _ _ _ _ _ w
section
variable {κ:Type}[DecidableEq κ]
def cZ(k:κ):List (κ×vZ)->Nat->Option (Nat×vZ)
 | [],_=>none
 |p::l,i=>if k=p.1 then some (i,p.2) else cZ k l (i+1)
def kG(k:κ)(v:vZ):List (κ×vZ)->List (κ×vZ)
 | []=>[(k,v)]
 |p::l=>if k=p.1 then(k,v)::l else p::kG k v l
def Reads(b:κ->vZ)(a:List MapEntry)(l:List (κ×vZ)):Prop:=a.map (fun e=>(e.key,e.val))=l.map (fun p=>(b p.1,p.2))
def lT(b:κ->vZ)(w:WR)(r:Nat)(l:List (κ×vZ)):Prop:=∃a clock,w.heap[r]?=some (.map a clock)/\Reads b a.toList l
structure Keys (kt:TypeId)(kf:κ->Value)(ok:κ->Prop):Prop where
 find:∀(k:κ) (es:List MapEntry) (l:List (κ×Value)) (w:World),ok k->(∀p∈l,ok p.1)->Reads kf es l->(Instr.findKey kt (kf k) es).run zQ.prog w=.ok (cZ k l 0) w
 ZU:∀(e:Bool) (k:κ) (w:World),(Instr.checkKey e 10000 kt (kf k)).run zQ.prog w=.ok () w
 bits:∀k:κ,Instr.sameBits 10000 (kf k) (kf k)=true
theorem yJ{k:κ}{v:vZ}:∀{l:List (κ×vZ)} {i:Nat},cZ k l i=none->kG k v l=l++[(k,v)]
 | [],_,_=>rfl
 |p::l,i,h=>by
  unfold cZ at h;split at h
  .cases h
  .rename_i a;unfold kG;rw[if_neg a,yJ h];rfl
theorem yK{k:κ}{v:vZ}:∀{l:List (κ×vZ)} {i j:Nat} {x:vZ},cZ k l i=some (j,x)->∃a y b,l=a++(k,y)::b/\j=i+a.length/\x=y/\kG k v l=a++(k,v)::b
 | [],_,_,_,h=>by cases h
 |p::l,i,j,x,h=>by
  unfold cZ at h;split at h
  .rename_i d;cases h;have⟨g,pv⟩:=p;simp only at d;subst d;exact⟨[],pv,l,rfl,rfl,rfl,by simp[kG]⟩
  .rename_i c;have⟨a,y,b,e,f,h3,h4⟩:=yK (v:=v) h;refine⟨p::a,y,b,by rw[e];rfl,by simp;omega,h3,?_⟩;unfold kG;rw[if_neg c,h4];rfl
theorem yL{c:Type}(f:c->c)(e:c)(b:List c):∀a:List c,(a++e::b).modify a.length f=a++f e::b
 | []=>rfl
 |x::a=>by show(x::(a++e::b)).modify (a.length+1) f=_;rw[List.modify_succ_cons,yL f e b a];rfl
def Reads.nil{b:κ->vZ}{a:List MapEntry}(h:Reads b a []):a=[]:=by
 unfold Reads at h;cases a with
 |nil=>rfl
 |cons=>simp at h
def Reads.cons{c:κ->vZ}{b:List MapEntry}{p:κ×vZ}{l:List (κ×vZ)}(h:Reads c b (p::l)):∃e a,b=e::a/\e.key=c p.1/\e.val=p.2/\Reads c a l:=by
 unfold Reads at h;cases b with
 |nil=>simp at h
 |cons e a=>
  simp only[aBl,aBX,aCL] at h;exact⟨e,a,rfl,h.1.1,h.1.2,h.2⟩
def Reads.length{b:κ->vZ}{a:List MapEntry}{l:List (κ×vZ)}(h:Reads b a l):a.length=l.length:=by have:=congrArg List.length h;simpa using this
def Reads.upd{d:κ->vZ}{k:κ}{v:vZ}{l:List (κ×vZ)}{j:Nat}{x:vZ}(q:cZ k l 0=some (j,x))(c:Array MapEntry)(h:Reads d c.toList l):(c[j]?).map (·.key)=some (d k)/\Reads d (c.modify j fun e=>{e with key:=d k,val:=v}).toList (kG k v l):=by
 have⟨a,y,b,p,g,_,h4⟩:=yK (v:=v) q;rw[aAM] at g;subst p g;rw[h4];unfold Reads at h⊢;have⟨c⟩:=c;simp only[aBc,aBl] at h⊢;obtain⟨s,t,rfl,m,o⟩:=List.map_eq_append_iff.1 h;obtain⟨e,r,rfl,n,f⟩:=List.map_eq_cons_iff.1 o;have i:s.length=a.length:=by have:=congrArg List.length m;simpa using this
 simp only[aCL] at n;constructor
 .simp[<-i,n.1]
 .simp only[List.modify_toArray,<-i];rw[yL];simp[m,f]
def Reads.push{a:κ->vZ}{k:κ}{v:vZ}{l:List (κ×vZ)}(c:cZ k l 0=none)(b:Array MapEntry)(h:Reads a b.toList l)(n:Nat):Reads a (b.push {key:=a k,val:=v,born:=n}).toList (kG k v l):=by rw[yJ c];unfold Reads at h⊢;simp[h]
def BI{m A mt:Fh}{c:κ->vZ}{ok:κ->Prop}(K:Keys m c ok)(s:zQ.prog.underlying mt=some (.map m A)){w:WR}{r:Nat}{l:List (κ×vZ)}{k:κ}{v:vZ}(u:lT c w r l)(y:ok k)(B:∀p∈l,ok p.1):
  ∃a clock,(Instr.mapUpdate mt (.map (some r)) (c k) v).run zQ.prog w=.ok () {w with heap:=w.heap.setIfInBounds r (.map a clock)}/\lT c {w with heap:=w.heap.setIfInBounds r (.map a clock)} r (kG k v l):=by
 have⟨a,clock,f,g⟩:=u;have n:=K.find k a.toList l w y B g;have d:r<w.heap.size:=(aAu.1 f).1;have b:∀o:Obj,(w.heap.setIfInBounds r o)[r]?=some o:=fun o=>by simp[d]
 have i:(getObj r).run zQ.prog w=.ok (.map a clock) w:=by simp[getObj,Sem.run,f]
 have q:∀o:Obj,(setObj r o).run zQ.prog w=.ok () {w with heap:=w.heap.setIfInBounds r o}:=fun o=>by simp[setObj,Sem.run,f]
 unfold Instr.mapUpdate;cases h:cZ k l 0 with
 |none=>
  refine⟨a.push {key:=c k,val:=v,born:=clock},clock+1,?_,_,_,b _,g.push h a clock⟩;simp[run_underlying s,i,q,K.ZU,n,h]
 |some p=>
  have⟨j,x⟩:=p;have⟨z,t⟩:=g.upd (v:=v) h a;refine⟨a.modify j fun e=>{e with key:=c k,val:=v},clock,?_,_,_,b _,t⟩;simp[run_underlying s,i,q,K.ZU,n,h,Instr.keyThatStays,z,K.bits]
def mQ{c d mt:Fh}{a:κ->vZ}{ok:κ->Prop}(K:Keys c a ok)(g:zQ.prog.underlying mt=some (.map c d)){w:WR}{r:Nat}{l:List (κ×vZ)}{k:κ}{z:vZ}(i:lT a w r l)(m:ok k)(o:∀p∈l,ok p.1)(n:∀w,(zeroValue d).run zQ.prog w=.ok z w):
  (Instr.lookup mt (.map (some r)) (a k) false).run zQ.prog w=.ok ((cZ k l 0).elim z (·.2)) w:=by
 have⟨f,clock,j,q⟩:=i;have e:=K.find k f.toList l w m o q;have b:(getObj r).run zQ.prog w=.ok (.map f clock) w:=by simp[getObj,Sem.run,j]
 unfold Instr.lookup;cases h:cZ k l 0 with
 |none=>simp[run_underlying g,b,K.ZU,e,h,n]
 |some p=>simp[run_underlying g,b,K.ZU,e,h]
def mS{mt c j:Fh}{g:κ->vZ}(b:zQ.prog.underlying mt=some (.map c j)){w:WR}{r:Nat}{l:List (κ×vZ)}(e:lT g w r l):(Builtin.len_ #[mt] 3 #[.map (some r)]).run zQ.prog w=.ok (.int .i64 (l.length:Int)) w:=by
 have⟨a,clock,f,d⟩:=e;have h:(getObj r).run zQ.prog w=.ok (.map a clock) w:=by simp[getObj,Sem.run,f]
 have i:a.size=l.length:=by have:=d.length;simpa using this
 simp[Builtin.len_,run_underlying b,h,i,goInt]
end
theorem vP(k:Int):∀(a:List MapEntry) (l:List (Int×vZ)) (i:Nat),Reads (fun x:Int=>Value.int .i64 x) a l->Instr.findNow (.int .i64) (.int .i64 k) a i=some (cZ k l i)
 |a,[],i,h=>by rw[h.nil];rfl
 |a,p::l,i,h=>by
  obtain⟨e,c,rfl,f,d,h3⟩:=h.cons;unfold Instr.findNow cZ;simp only[f,Instr.sameNow,if_true];by_cases b:k=p.1
  .simp[b,d]
  .have:(k==p.1)=false:=by simpa using b
   simp only[this,if_neg b];exact vP k c l (i+1) h3
def pg:Keys 3 (fun x:Int=>Value.int .i64 x) (fun _=>True):=by
 refine⟨fun k a l w _ _ h=>?_,fun e k w=>?_,fun k=>?_⟩
 .unfold Instr.findKey;simp only[Sem.run_bind,run_underlying u3,Result.andThen_ok,vP k a l 0 h];rfl
 .show(Instr.checkKey e (9999+1) 3 (vI k)).run zQ.prog w=_;unfold Instr.checkKey;simp[run_underlying u3]
 .show Instr.sameBits (9999+1) (vI k) (vI k)=true;simp[Instr.sameBits]
theorem rX(k:Nat)(d:k<M):∀(b:List MapEntry) (l:List (Nat×vZ)) (i:Nat) (w:WR),(∀p∈l,p.1<M)->Reads wd b l->(Instr.findAsking 41 (wd k) b i).run zQ.prog w=.ok (cZ k l i) w
 |b,[],i,w,_,h=>by rw[h.nil];rfl
 |b,p::l,i,w,f,h=>by
  obtain⟨e,c,rfl,m,g,h3⟩:=h.cons;unfold Instr.findAsking cZ;have n:=rW k p.1 d (f p aAQ) w;simp only[Sem.run_bind,m,n,Result.andThen_ok];by_cases a:k=p.1
  .simp[a,g]
  .simp only[a,decide_false,aBU,if_false];exact rX k d c l (i+1) w (fun q j=>f q (aAR _ j)) h3
def gT:Keys 41 wd (· <M):=by
 refine⟨fun k a l w c d h=>?_,fun e k w=>?_,fun k=>?_⟩
 .unfold Instr.findKey;simp only[Sem.run_bind,run_underlying Ls,Result.andThen_ok];cases a with
  |nil=>
   cases l with
   |nil=>rfl
   |cons p l=>have⟨_,_,h,_⟩:=h.cons;cases h
  |cons x a=>
   have:Instr.findNow (.array 4 39) (wd k) (x::a) 0=none:=by simp[Instr.findNow,Instr.sameNow]
   rw[this];exact rX k c _ l 0 w d h
 .show(Instr.checkKey e (9999+1) 41 (wd k)).run zQ.prog w=_;have b:∀(x:Int) (w:WR),(Instr.checkKey e 9999 39 (vU x)).run zQ.prog w=.ok () w:=fun x w=>by show(Instr.checkKey e (9998+1) 39 (vU x)).run zQ.prog w=_;unfold Instr.checkKey;simp[run_underlying O9]
  have p:=parts;unfold Instr.checkKey;simp only[Sem.run_bind,run_underlying Ls,Result.andThen_ok];simp;rw[show List.range' 0 4=[0,1,2,3] from rfl];simp[p,b]
 .show Instr.sameBits (9999+1) (wd k) (wd k)=true;simp[Instr.sameBits]
end
structure Ft (w w':WR)(b lo hi:Nat):Prop where
 os:w'.os=w.os
 tape:w'.tape=w.tape
 output:w'.output=w.output
 size:w'.heap.size=w.heap.size
 block:∀k,k≠b->w'.heap[k]?=w.heap[k]?
 cell:∀o,o<lo\/hi<=o->w'.cell? ⟨b,o,none⟩=w.cell? ⟨b,o,none⟩
 frozen:∀o,w'.frozen? ⟨b,o,none⟩=w.frozen? ⟨b,o,none⟩
def Ft.refl(w:WR)(b c a:Nat):Ft w w b c a:=⟨rfl,rfl,rfl,rfl,fun _ _=>rfl,fun _ _=>rfl,fun _=>rfl⟩
section
structure bF where
 id:Int
 bal:Nat
 nonce:Int
 code:ByteArray
 bE:List (Nat×Nat)
structure SV where
 a:Option Addr
 n:Nat
 c:Nat
def aV(d:bF)(s:SV):K3:=[.int .i64 d.id,.int .u64 (aI d.bal 0),.int .u64 (aI d.bal 1),.int .u64 (aI d.bal 2),.int .u64 (aI d.bal 3),.int .i64 d.nonce,.string d.code,.slice s.a s.n s.c]
def cI(w:WR)(b o:Nat)(l:K3):Prop:=∀(j:Nat) (v:vZ),l[j]?=some v->w.cell? ⟨b,o+j,none⟩=some v
def nS(w:WR)(b o:Nat)(a:List (bF×SV)):Prop:=∀(i:Nat) (p:bF×SV),a[i]?=some p->cI w b (o+i*8) (aV p.1 p.2)
def cI.below{w c:WR}{b o:Nat}{l:K3}(h:cI w b o l)(f:Bw w c):cI c b o l:=fun j v e=>by
 have:=h j v e;have a:b<w.heap.size:=by
  simp only[World.cell?] at this;cases d:w.heap[b]? with
  |none=>rw[d] at this;cases this
  |some o=>exact(aAu.1 d).1
 rw[f.cell (p:=(ad b (o+j))) a];exact this
def nS.below{w a:WR}{b o:Nat}{c:List (bF×SV)}(h:nS w b o c)(e:Bw w a):nS a b o c:=fun i p d=>(h i p d).below e
def IT{a:Type}{P:List a->Prop}(d:P [])(c:∀l x,P l->P (l++[x]))(l:List a):P l:=by
 have:∀l:List a,P l.reverse:=by
  intro l;induction l with
  |nil=>exact d
  |cons x l b=>rw[List.reverse_cons];exact c _ _ b
 have h:=this l.reverse;rwa[List.reverse_reverse] at h
section
variable {κ:Type}[DecidableEq κ]
def nI(u:vZ)(a:List κ):List (κ×vZ):=a.foldl (fun l k=>kG k u l) []
def oZ(u:vZ)(a:List κ)(k:κ):nI u (a++[k])=kG k u (nI u a):=by simp[nI,List.foldl_append]
theorem uC(u:vZ)(k:κ):∀l:List (κ×vZ),(kG k u l).map (·.1)=if k∈l.map (·.1) then l.map (·.1) else l.map (·.1)++[k]
 | []=>by simp[kG]
 |p::l=>by
  unfold kG;by_cases h:k=p.1
  .simp[h]
  .rw[if_neg h,aBl,uC u k l];by_cases a:k∈l.map (·.1)
   .rw[if_pos a,if_pos (by simp[a])];rfl
   .rw[if_neg a,if_neg (by simp only[aBl,aAx,not_or];exact⟨h,a⟩)];rfl
def yM(u:vZ)(b:List κ):∀k,k∈(nI u b).map (·.1) ↔ k∈b:=by
 refine IT (P:=fun b=>∀k,k∈(nI u b).map (·.1) ↔ k∈b) (by simp[nI]) (fun b x c=>?_) b
 .intro k;rw[oZ,uC];split
  .rename_i h;rw[c];constructor
   .intro a;simp[a]
   .intro a;rcases aAL.1 a with a|a
    .exact a
    .rw[aAB.1 a];exact(c x).1 h
  .rw[aAL,c,aAL]
def IU(u:vZ)(c:List κ):(nI u c).length<=c.length/\((nI u c).length=c.length ↔ c.Nodup):=by
 refine IT (P:=fun c=>(nI u c).length<=c.length/\((nI u c).length=c.length ↔ c.Nodup)) (by simp[nI]) (fun c x d=>?_) c
 .have f:(nI u (c++[x])).length=((nI u (c++[x])).map (·.1)).length:=sI
  rw[f,oZ,uC];split
  .rename_i h;rw[yM] at h;have:=d.1;simp only[aBB,aBs,aBr,aBN];refine⟨oM,⟨fun e=>oM,fun k=>?_⟩⟩;have:=(aBv.1 k).2.2 x h x sI;exact absurd rfl this
  .rename_i h;rw[yM] at h;simp only[aBs,aBB,aBr,aBN];refine⟨oM,?_⟩;rw[aBv];constructor
   .intro e;refine⟨d.2.1 oM,sI,fun a g b j=>?_⟩;rw[aAB.1 j];rintro rfl;exact h g
   .rintro⟨i,_,_⟩;have:=d.2.2 i;omega
end
def jG{B:Nat}{a w:WR}(h:Below B a w){r:Nat}(c:B<=r)(o:Obj):Below B a {w with heap:=w.heap.setIfInBounds r o}:=
 ⟨h.os,h.tape,h.output,by simpa using h.size,fun k b=>by rw[aAH oM];exact h.block k b⟩
def lT.of_block{κ:Type}{b:κ->vZ}{w a:WR}{r:Nat}{l:List (κ×vZ)}(h:lT b w r l)(e:a.heap[r]?=w.heap[r]?):lT b a r l:=let⟨f,c,g,d⟩:=h;⟨f,c,e.tr g,d⟩
def lT.alloc{κ:Type}{a:κ->vZ}{w:WR}{r:Nat}{l:List (κ×vZ)}(h:lT a w r l)(o:Obj):lT a (w.alloc o) r l:=by refine h.of_block ?_;have⟨_,_,b,_⟩:=h;have:=(aAu.1 b).1;show(w.heap.push o)[r]?=_;rw[aBF this,aAN this]
def lT.aL{κ:Type}{a:κ->vZ}{w:WR}{r:Nat}{l:List (κ×vZ)}(h:lT a w r l)(o:Obj):lT a (w.alloc o) r l:=lT.alloc h o
def yN{a b:Type}(f:a->b)(l:List a)(k:Nat)(h:k<l.length):(l.take k).map f++[f l[k]]=(l.take (k+1)).map f:=by rw[aDe,aAG h,aBc];rfl
def nU{κ:Type}[DecidableEq κ]{e m mt:Fh}{c:κ->vZ}{ok:κ->Prop}(K:Keys e c ok)(q:zQ.prog.underlying mt=some (.map e m)){W:WR}{r:Nat}{l:List (κ×vZ)}{k:κ}{v:vZ}{o:Oper}{a:Act}{next:Fi}{Q:Fg}(i:lT c W r l)(j:ok k)(n:∀p∈l,ok p.1)(h:∀f,lT c {W with heap:=W.heap.setIfInBounds r f} r (kG k v l)->next (a.put o.dst ud) {W with heap:=W.heap.setIfInBounds r f}):
  Oper.upon zQ.prog o a next Q ((Sem.run zQ.prog (Instr.mapUpdate mt (.map (some r)) (c k) v) W).andThen fun _ g=>.ok .skip g):=by
 have⟨s,clock,b,d⟩:=BI K q (v:=v) i j n;rw[b];exact h _ d
def uD{mt b c:Fh}(a:zQ.prog.underlying mt=some (.map b c))(n:Nat)(w:WR):(Instr.makeMap mt (some (.int .i64 n))).run zQ.prog w=.ok (.map (some w.heap.size)) (w.alloc (.map #[] 0)):=by unfold Instr.makeMap;simp[run_underlying a,asInt,asIntOf]
end
def bX(p:Nat×Nat):K3:=[.int .u64 (aI p.1 0),.int .u64 (aI p.1 1),.int .u64 (aI p.1 2),.int .u64 (aI p.1 3),.int .u64 (aI p.2 0),.int .u64 (aI p.2 1),.int .u64 (aI p.2 2),.int .u64 (aI p.2 3)]
def pA(w:WR)(b:Nat)(ss:List (Nat×Nat)):Prop:=∀(i:Nat) (p:Nat×Nat),ss[i]?=some p->cI w b (i*8) (bX p)
def pA.below(h:pA w b ss)(c:Bw w w'):pA w' b ss:=fun i p a=>(h i p a).below c
def ZV{b:Type}[DecidableEq b]{ok:b->Prop}(u:vZ)(a:List b)(h:∀k∈a,ok k):∀p∈nI u a,ok p.1:=fun p c=>h _ ((yM u a p.1).1 (aAI c))
def iD(d:bF):Prop:=1<=d.id/\d.id<=999999/\0<=d.nonce/\d.nonce<=4611686018427387904/\(d.code.size:Int)<=2000/\(d.bE.length:Int)<=64/\(d.bE.map (·.1)).Nodup
instance (d:bF):Decidable (iD d):=by unfold iD;infer_instance
def qA(n i:Nat):Int:=((n / 4294967296 ^ i % 4294967296:Nat):Int)
abbrev lg(n:Nat):vZ:=.agg #[.int .u64 (qA n 0),.int .u64 (qA n 1),.int .u64 (qA n 2),.int .u64 (qA n 3),.int .u64 (qA n 4),.int .u64 (qA n 5),.int .u64 (qA n 6),.int .u64 (qA n 7),.int .u64 (qA n 8),.int .u64 (qA n 9),.int .u64 (qA n 10),.int .u64 (qA n 11),.int .u64 (qA n 12),.int .u64 (qA n 13),.int .u64 (qA n 14),.int .u64 (qA n 15)]
def val:K4->Nat
 | []=>0
 |x::l=>x+4294967296*val l
structure Pa (W:WR)(b:Nat)(x0 x1 x2 x3 x4 x5 x6 x7 x8 x9 x10 x11 x12 x13 x14 x15:Int):Prop where
 c0:W.cell? ⟨b,0,none⟩=some (.int .u64 x0)
 c1:W.cell? ⟨b,1,none⟩=some (.int .u64 x1)
 c2:W.cell? ⟨b,2,none⟩=some (.int .u64 x2)
 c3:W.cell? ⟨b,3,none⟩=some (.int .u64 x3)
 c4:W.cell? ⟨b,4,none⟩=some (.int .u64 x4)
 c5:W.cell? ⟨b,5,none⟩=some (.int .u64 x5)
 c6:W.cell? ⟨b,6,none⟩=some (.int .u64 x6)
 c7:W.cell? ⟨b,7,none⟩=some (.int .u64 x7)
 c8:W.cell? ⟨b,8,none⟩=some (.int .u64 x8)
 c9:W.cell? ⟨b,9,none⟩=some (.int .u64 x9)
 XU:W.cell? ⟨b,10,none⟩=some (.int .u64 x10)
 Lt:W.cell? ⟨b,11,none⟩=some (.int .u64 x11)
 AI:W.cell? ⟨b,12,none⟩=some (.int .u64 x12)
 mr:W.cell? ⟨b,13,none⟩=some (.int .u64 x13)
 BJ:W.cell? ⟨b,14,none⟩=some (.int .u64 x14)
 P6:W.cell? ⟨b,15,none⟩=some (.int .u64 x15)
 fz:∀j,j<16->W.frozen? ⟨b,j,none⟩=false
theorem nV(b:Nat):∀(d:K3) (o:Nat) (B:Nat) (a w:WR),Below B a w->B<=b->Below B a (w.setCells b o d)
 | [],_,_,_,_,h,_=>h
 |v::r,o,B,a,w,h,c=>by rw[World.setCells];exact nV b r (o+1) B a _ (h.sC (p:=(ad b o)) c v) c
def dl(n:Nat):K3:=[.int .u64 (qA n 0),.int .u64 (qA n 1),.int .u64 (qA n 2),.int .u64 (qA n 3),.int .u64 (qA n 4),.int .u64 (qA n 5),.int .u64 (qA n 6),.int .u64 (qA n 7),.int .u64 (qA n 8),.int .u64 (qA n 9),.int .u64 (qA n 10),.int .u64 (qA n 11),.int .u64 (qA n 12),.int .u64 (qA n 13),.int .u64 (qA n 14),.int .u64 (qA n 15)]
def lv(n:Nat):vZ:=.agg (dl n).toArray
structure LL (l:K3):Prop where
 len:l.length=16
 one:l.toArray.all (·.oneCell')=true
structure LH (W:WR)(b:Nat)(l:K3):Prop where
 r:W.rangeAt b 0 l
 t:W.there b 0 16
 z:b<W.heap.size
section
attribute [local go_sem] wd
structure R4 (w:WR)(r n:Nat):Prop where
 c0:w.cell? ⟨r,0,none⟩=some (.int .u64 (aI n 0))
 c1:w.cell? ⟨r,1,none⟩=some (.int .u64 (aI n 1))
 c2:w.cell? ⟨r,2,none⟩=some (.int .u64 (aI n 2))
 c3:w.cell? ⟨r,3,none⟩=some (.int .u64 (aI n 3))
 fz:∀j,w.frozen? ⟨r,j,none⟩=false
 lt:r<w.heap.size
def R4.below{r:Nat}(h:R4 w r n)(a:Bw w w'):R4 w' r n:=
 ⟨(a.cell (p:=(ad r 0)) h.lt).tr h.c0,(a.cell (p:=(ad r 1)) h.lt).tr h.c1,(a.cell (p:=(ad r 2)) h.lt).tr h.c2,(a.cell (p:=(ad r 3)) h.lt).tr h.c3,fun j=>(a.frozen (p:=(ad r j)) h.lt).tr (h.fz j),aAy h.lt a.size⟩
def total(a:List (bF×SV)):Nat:=(a.map (·.1.bal)).sum
def NY(a:List (bF×SV))(k:Nat)(h:k<a.length):total (a.take (k+1))=total (a.take k)+a[k].1.bal:=by unfold total;rw[<-yN (fun p:bF×SV=>p.1.bal) a k h,List.sum_append];simp
def ZW(a:List (bF×SV))(k:Nat):total (a.take k)<=total a:=by
 unfold total
 conv=>rhs;rw[<-aBA k a,aBc,List.sum_append]
 omega
structure Q8 (w:WR)(b:Nat)(ds:List (bF×SV)):Prop where
 acc:nS w b 0 ds
 sl:∀p∈ds,∃bs cap,p.2=⟨some ⟨bs,0,none⟩,p.1.bE.length,cap⟩/\pA w bs p.1.bE
 bal:∀p∈ds,p.1.bal<M
 num:∀p∈ds,p.1.bE.length<2199023255552
 key:∀p∈ds,∀q∈p.1.bE,q.1<M/\q.2<M
 len:ds.length<2199023255552
def gM(a:List bF):Prop:=a.length<=64/\(∀d∈a,iD d)/\(a.map (·.id)).Nodup/\(a.map (·.bal)).sum<M
instance (ds:List bF):Decidable (gM ds):=by unfold gM;infer_instance
end
section
attribute [local go_sem] wd lg
end
def Lu(s a k:Nat):K3:=(dl s).take k++(dl a).drop k
def qN{Q:Fg}{b:Region.Mode}{S:K6}(n:ops[i]?=some oi)(e:oi.dst=d)(l:Region.noSelect ops=true)(f:Region.free b ops listed i=true)(k:(Region.ready b ops listed).contains i=true)(m:∀c a w,Q (.panic c) (a.put oi.dst v) w->Q (.panic c) a w)(g:YieldsIf P ops S oi v a)(j:S w)(h:wpAnyH P b ops Q S fuel (listed.setIfInBounds i true) (a.put d v) w):wpAnyH P b ops Q S (fuel+1) listed a w:=by
 subst e;exact wpAnyH_take n l f k m g j h
def td{Q:Fg}{b:Region.Mode}{S:K6}(n:ops[i]?=some oi)(e:oi.dst=d)(j:∀w,S w->(execOp a.eval oi).run P w=.ok (.value v) w)(k:S w)(h:wpAnyH P b ops Q S fuel (listed.setIfInBounds i true) a' w)(l:Region.noSelect ops=true:=by kernel_rfl)(hf:Region.free b ops listed i=true:=by kernel_rfl)(hr:(Region.ready b ops listed).contains i=true:=by kernel_rfl)(m:∀c a w,Q (.panic c) (a.put oi.dst v) w->Q (.panic c) a w:=by intro _ _ _ h;first|exact h|cases h.1)(f:Region.wanted oi (yielded ops a.tmps)=true:=by rfl)(g:a.put d v=a':=by(simp only[Act.put,aAA,aAD,aAE];try rfl)):wpAnyH P b ops Q S (fuel+1) listed a w:=by
 subst g;exact qN n e l hf hr m (Or.inl ⟨f,j⟩) k h
def ba{o:Obj}:Bw w (w.alloc o):=bR.aL lR o
abbrev pq(b o:Nat):vZ:=.pointer (some ⟨b,o,none⟩)
abbrev wq(n:Nat):Ff:=#[.int .u64 (aI n 0),.int .u64 (aI n 1),.int .u64 (aI n 2),.int .u64 (aI n 3)]
abbrev wz:Ff:=#[.int .u64 0,.int .u64 0,.int .u64 0,.int .u64 0]
abbrev ob(c:Ff)(t:Fh):Option Obj:=some (.cells c t (0,0))
def bq(h:W.heap[b]?=some (.cells c t f))(i:Nat)(e:c.toList[i]?=some x:=by rfl):W.cell? ⟨b,i,none⟩=some x:=by simp only[World.cell?,h];rw[←aBp];exact e
def bk{k:Nat}{o:Obj}(a:Below w.heap.size w w')(h:w.heap[k]?=some o):w'.heap[k]?=some o:=(a.block _ (aAu.1 h).1).tr h
def tx{Q:Fg}{b:Region.Mode}{S:K6}(i d:Nat)(v:vZ)(p:S w)(h:wpAnyH P b ops Q S fuel (listed.setIfInBounds i true) a' w)(o:ops[i]?=some oi:=by rfl)(e:oi.dst=some d:=by rfl)(l:∀w,S w->(execOp a.eval oi).run P w=.ok (.value v) w:=by(intro _ h;clear h;go_simp))(n:Region.noSelect ops=true:=by kernel_rfl)(k:Region.free b ops listed i=true:=by kernel_rfl)(m:(Region.ready b ops listed).contains i=true:=by kernel_rfl)(f:∀c a w,Q (.panic c) (a.put oi.dst v) w->Q (.panic c) a w:=by intro _ _ _ h;first|exact h|cases h.1)(g:Region.wanted oi (yielded ops a.tmps)=true:=by rfl)(j:a.put (some d) v=a':=by(simp only[Act.put,aAA,aAD,aAE];try rfl)):wpAnyH P b ops Q S (fuel+1) listed a w:=by
 subst j;exact qN o e n k m f (Or.inl ⟨g,l⟩) p h
def tv{Q:Fg}{b:Region.Mode}{S X:K6}(i d:Nat)(v:vZ)(f:∀w,S w->X w)(q:S w)(h:wpAnyH P b ops Q S fuel (listed.setIfInBounds i true) a' w)(p:ops[i]?=some oi:=by rfl)(e:oi.dst=some d:=by rfl)(m:∀w,X w->(execOp a.eval oi).run P w=.ok (.value v) w:=by(intro _ _;go_simp))(o:Region.noSelect ops=true:=by kernel_rfl)(l:Region.free b ops listed i=true:=by kernel_rfl)(n:(Region.ready b ops listed).contains i=true:=by kernel_rfl)(g:∀c a w,Q (.panic c) (a.put oi.dst v) w->Q (.panic c) a w:=by intro _ _ _ h;first|exact h|cases h.1)(j:Region.wanted oi (yielded ops a.tmps)=true:=by rfl)(k:a.put (some d) v=a':=by(simp only[Act.put,aAA,aAD,aAE];try rfl)):wpAnyH P b ops Q S (fuel+1) listed a w:=by
 subst k;exact qN p e o l n g (Or.inl ⟨j,fun w h=>m w (f w h)⟩) q h
def q4{y z u:vZ}(h:W.heap[b]?=some (.cells c t f))(e:c.toList[0]?=some x:=by rfl)(d:c.toList[1]?=some y:=by rfl)(a:c.toList[2]?=some z:=by rfl)(h3:c.toList[3]?=some u:=by rfl):W.cell? ⟨b,0,none⟩=some x/\W.cell? ⟨b,1,none⟩=some y/\W.cell? ⟨b,2,none⟩=some z/\W.cell? ⟨b,3,none⟩=some u:=⟨bq h 0 e,bq h 1 d,bq h 2 a,bq h 3 h3⟩
def US{p:Prop}(h:p):Shut p:=h
def aq{p q:Prop}(h:p)(k:q):p/\q:=⟨h,k⟩
def rq{Q:Fg}{id:Nat}(S:K6)(c:S w.drew)(h:S w.drew->wpAnyH P .any ops Q S ops.size (Array.replicate ops.size false) a w.drew)(b:P.follows .mixedOrders=true:=by kernel_rfl):(Code.region id ops true).wp P Q a w:=wp_region_held_drew b c h
def dn{Q:Fg}{b:Region.Mode}{S:K6}(h:Q .normal a w)(c:Region.ready b ops listed=[]:=by kernel_rfl):wpAnyH P b ops Q S fuel listed a w:=wpAnyH_done c h fuel
def r1{Q:Fg}{b:Region.Mode}{S:K6}(d:ops[i]?=some o)(h:∀c:Fi,Shut (∀a w,S w->(S w->wpAnyH P b ops Q S fuel (listed.setIfInBounds i true) a w)->c a w)->if Region.wanted o (yielded ops a.tmps)=true then Oper.wp P o a w c Q else c (a.put o.dst ud) w)(e:Region.ready b ops listed=[i]:=by kernel_rfl):wpAnyH P b ops Q S (fuel+1) listed a w:=wpAnyH_ready e sI (AllReadyH.cons d h AllReadyH.nil)
def Tm(P:K5)(b:Region.Mode)(ops:DQ)(Q:Fg)(S:K6)(L:Array Bool)(a:Act)(i:Nat)(a':Act):Prop:=∀fuel w,S w->wpAnyH P b ops Q S fuel (L.setIfInBounds i true) a' w->wpAnyH P b ops Q S (fuel+1) L a w
def WE{Q:Fg}{b:Region.Mode}{S:K6}{d:Nat}(o:ops[i]?=some oi:=by rfl)(e:oi.dst=some d:=by rfl)(l:∀w,S w->(execOp a.eval oi).run P w=.ok (.value v) w:=by(intro _ h;clear h;go_simp;rfl))(n:Region.noSelect ops=true:=by kernel_rfl)(k:Region.free b ops L i=true:=by kernel_rfl)(m:(Region.ready b ops L).contains i=true:=by kernel_rfl)(f:∀c a w,Q (.panic c) (a.put oi.dst v) w->Q (.panic c) a w:=by intro _ _ _ h;first|exact h|cases h.1)(g:Region.wanted oi (yielded ops a.tmps)=true:=by rfl)(j:a.put (some d) v=a1:=by(simp only[Act.put,aAA,aAD,aAE];try rfl)):Tm P b ops Q S L a i a1:=fun _ _ p h=>by
 subst j;exact qN o e n k m f (Or.inl ⟨g,l⟩) p h
def tV{Q:Fg}{b:Region.Mode}{S X:K6}{d:Nat}(i:Nat)(f:∀w,S w->X w)(q:S w)(h:wpAnyH P b ops Q S fuel (L.setIfInBounds i true) a1 w)(p:ops[i]?=some oi:=by rfl)(e:oi.dst=some d:=by rfl)(m:∀w,X w->(execOp a.eval oi).run P w=.ok (.value v) w:=by(intro _ _;go_simp;rfl))(o:Region.noSelect ops=true:=by kernel_rfl)(l:Region.free b ops L i=true:=by kernel_rfl)(n:(Region.ready b ops L).contains i=true:=by kernel_rfl)(g:∀c a w,Q (.panic c) (a.put oi.dst v) w->Q (.panic c) a w:=by intro _ _ _ h;first|exact h|cases h.1)(j:Region.wanted oi (yielded ops a.tmps)=true:=by rfl)(k:a.put (some d) v=a1:=by(simp only[Act.put,aAA,aAD,aAE];try rfl)):wpAnyH P b ops Q S (fuel+1) L a w:=by
 subst k;exact qN p e o l n g (Or.inl ⟨j,fun w h=>m w (f w h)⟩) q h
def tD{Q:Fg}{b:Region.Mode}{S:K6}(i d:Nat)(v:vZ)(k:∀w,S w->(execOp a.eval oi).run P w=.ok (.value v) w)(n:S w)(h:wpAnyH P b ops Q S fuel (L.setIfInBounds i true) a1 w)(m:ops[i]?=some oi:=by rfl)(e:oi.dst=some d:=by rfl)(l:Region.noSelect ops=true:=by kernel_rfl)(hf:Region.free b ops L i=true:=by kernel_rfl)(hr:(Region.ready b ops L).contains i=true:=by kernel_rfl)(f:∀c a w,Q (.panic c) (a.put oi.dst v) w->Q (.panic c) a w:=by intro _ _ _ h;first|exact h|cases h.1)(g:Region.wanted oi (yielded ops a.tmps)=true:=by rfl)(j:a.put (some d) v=a1:=by(simp only[Act.put,aAA,aAD,aAE];try rfl)):wpAnyH P b ops Q S (fuel+1) L a w:=by
 subst j;exact qN m e l hf hr f (Or.inl ⟨g,k⟩) n h
def t1{Q:Fg}{b:Region.Mode}{S:K6}(i:Nat)(c:S w)(h:wpAnyH P b ops Q S fuel (L.setIfInBounds i true) a1 w)(d:Tm P b ops Q S L a i a1:=by exact WE):wpAnyH P b ops Q S (fuel+1) L a w:=d _ _ c h
def t2{Q:Fg}{b:Region.Mode}{S:K6}(i j:Nat)(c:S w)(h:wpAnyH P b ops Q S fuel ((L.setIfInBounds i true).setIfInBounds j true) a2 w)(e:Tm P b ops Q S L a i a1:=by exact WE)(d:Tm P b ops Q S (L.setIfInBounds i true) a1 j a2:=by exact WE):wpAnyH P b ops Q S (fuel+2) L a w:=e _ _ c (d _ _ c h)
def t3{Q:Fg}{b:Region.Mode}{S:K6}(i j k:Nat)(c:S w)(h:wpAnyH P b ops Q S fuel (((L.setIfInBounds i true).setIfInBounds j true).setIfInBounds k true) a3 w)(e:Tm P b ops Q S L a i a1:=by exact WE)(d:Tm P b ops Q S (L.setIfInBounds i true) a1 j a2:=by exact WE)(h3:Tm P b ops Q S ((L.setIfInBounds i true).setIfInBounds j true) a2 k a3:=by exact WE):wpAnyH P b ops Q S (fuel+3) L a w:=e _ _ c (d _ _ c (h3 _ _ c h))
def t4{Q:Fg}{b:Region.Mode}{S:K6}(i j k l:Nat)(c:S w)(h:wpAnyH P b ops Q S fuel ((((L.setIfInBounds i true).setIfInBounds j true).setIfInBounds k true).setIfInBounds l true) a4 w)(e:Tm P b ops Q S L a i a1:=by exact WE)(d:Tm P b ops Q S (L.setIfInBounds i true) a1 j a2:=by exact WE)(h3:Tm P b ops Q S ((L.setIfInBounds i true).setIfInBounds j true) a2 k a3:=by exact WE)(h4:Tm P b ops Q S (((L.setIfInBounds i true).setIfInBounds j true).setIfInBounds k true) a3 l a4:=by exact WE):wpAnyH P b ops Q S (fuel+4) L a w:=e _ _ c (d _ _ c (h3 _ _ c (h4 _ _ c h)))
def t5{Q:Fg}{b:Region.Mode}{S:K6}(i j k l m:Nat)(c:S w)(h:wpAnyH P b ops Q S fuel (((((L.setIfInBounds i true).setIfInBounds j true).setIfInBounds k true).setIfInBounds l true).setIfInBounds m true) a5 w)(e:Tm P b ops Q S L a i a1:=by exact WE)(d:Tm P b ops Q S (L.setIfInBounds i true) a1 j a2:=by exact WE)(h3:Tm P b ops Q S ((L.setIfInBounds i true).setIfInBounds j true) a2 k a3:=by exact WE)(h4:Tm P b ops Q S (((L.setIfInBounds i true).setIfInBounds j true).setIfInBounds k true) a3 l a4:=by exact WE)(f:Tm P b ops Q S ((((L.setIfInBounds i true).setIfInBounds j true).setIfInBounds k true).setIfInBounds l true) a4 m a5:=by exact WE):wpAnyH P b ops Q S (fuel+5) L a w:=e _ _ c (d _ _ c (h3 _ _ c (h4 _ _ c (f _ _ c h))))
def t6{Q:Fg}{b:Region.Mode}{S:K6}{d:Act}(i j k l m n:Nat)(c:S w)(h:wpAnyH P b ops Q S fuel ((((((L.setIfInBounds i true).setIfInBounds j true).setIfInBounds k true).setIfInBounds l true).setIfInBounds m true).setIfInBounds n true) d w)(g:Tm P b ops Q S L a i a1:=by exact WE)(f:Tm P b ops Q S (L.setIfInBounds i true) a1 j a2:=by exact WE)(h3:Tm P b ops Q S ((L.setIfInBounds i true).setIfInBounds j true) a2 k a3:=by exact WE)(h4:Tm P b ops Q S (((L.setIfInBounds i true).setIfInBounds j true).setIfInBounds k true) a3 l a4:=by exact WE)(o:Tm P b ops Q S ((((L.setIfInBounds i true).setIfInBounds j true).setIfInBounds k true).setIfInBounds l true) a4 m a5:=by exact WE)(e:Tm P b ops Q S (((((L.setIfInBounds i true).setIfInBounds j true).setIfInBounds k true).setIfInBounds l true).setIfInBounds m true) a5 n d:=by exact WE):wpAnyH P b ops Q S (fuel+6) L a w:=g _ _ c (f _ _ c (h3 _ _ c (h4 _ _ c (o _ _ c (e _ _ c h)))))
def rA{Q:Fg}{b:Region.Mode}{S:K6}(i:Nat)(h:∀c:Fi,Shut (∀a w,S w->(S w->wpAnyH P b ops Q S fuel (L.setIfInBounds i true) a w)->c a w)->if Region.wanted o (yielded ops a.tmps)=true then Oper.wp P o a w c Q else c (a.put o.dst ud) w)(d:ops[i]?=some o:=by rfl)(e:Region.ready b ops L=[i]:=by kernel_rfl):wpAnyH P b ops Q S (fuel+1) L a w:=r1 d h e
def oy{c:Code}{Q:Fg}(R:K6)(h:∃A,c.wp P (fun e a' W=>e=.normal/\a'=A/\R W) a w/\∀W,R W->Q .normal A W):c.wp P Q a w:=
 let⟨_,g,d⟩:=h
 Code.wp_mono (fun _ _ _ ⟨b,i,f⟩=>by subst b i;exact d _ f) g
def fO(w:WR)(b o:Nat)(ss:List (Nat×Nat)):Prop:=∀(i:Nat) (p:Nat×Nat),ss[i]?=some p->cI w b (o+i*8) (bX p)
def fO.below{o:Nat}(h:fO w b o ss)(c:Bw w w'):fO w' b o ss:=fun i p a=>(h i p a).below c
structure uE (w:WR)(a:yj)(ds:List (bF×SV)):Prop where
 acc:ds=[]\/∃b o,a=some ⟨b,o,none⟩/\nS w b o ds
 sl:∀p∈ds,p.2.n=p.1.bE.length/\(p.1.bE=[]\/∃bs os,p.2.a=some ⟨bs,os,none⟩/\fO w bs os p.1.bE)
 bal:∀p∈ds,p.1.bal<M
 num:∀p∈ds,p.1.bE.length<2199023255552
 key:∀p∈ds,∀q∈p.1.bE,q.1<M/\q.2<M
 len:ds.length<2199023255552
def uE.below{a:yj}{g:List (bF×SV)}(h:uE w a g)(f:Bw w w'):uE w' a g:=
 ⟨h.acc.imp id fun⟨b,o,d,c⟩=>⟨b,o,d,c.below f⟩,fun p e=>⟨(h.sl p e).1,(h.sl p e).2.imp id fun⟨b,o,d,c⟩=>⟨b,o,d,c.below f⟩⟩,h.bal,h.num,h.key,h.len⟩
structure SW (w W:WR)(t b5:Nat)(l:K3):Prop where
 below:Below w.heap.size w W
 CL:LH W w.heap.size (dl t)
 x:cI W b5 0 l
 lt:w.heap.size<b5
def fW(W:WR)(l:K3)(b:Fh):cI (W.alloc (.cells l.toArray b)) W.heap.size 0 l:=fun j v a=>by rw[aAM];rw[World.cell?_alloc_new];simpa using a
def eW:List (Nat×Nat)->K3
 | []=>[]
 |p::ss=>bX p++eW ss
theorem CM:∀ss:List (Nat×Nat),(eW ss).length=ss.length*8
 | []=>rfl
 |p::ss=>by have h:(bX p).length=8:=rfl;rw[eW,aBs,CM ss,h,aBr];omega
theorem CN:∀(ss:List (Nat×Nat)),∀v∈eW ss,v.oneCell'=true
 | [],v,a=>by cases a
 |p::ss,v,a=>by
  rcases aAL.1 a with h|h
  .simp only[bX,aAx,aAC,or_false] at h;rcases h with h|h|h|h|h|h|h|h<;>rw[h]<;>rfl
  .exact CN ss v h
def UK(w:WR)(Z:Ff)(b:Fh):(w.alloc (.cells Z b)).there w.heap.size 0 Z.size:=fun j a=>by
 rw[aAM];refine⟨?_,?_⟩
 .rw[World.cell?_alloc_new];simp[a]
 .simp[go_sem]
def QK(a d g e b h c f:vZ)(w:WR):(part 41 #[a,d,g,e,b,h,c,f] 0).run zQ.prog w=.ok (.agg #[a,d,g,e]) w/\(part 41 #[a,d,g,e,b,h,c,f] 4).run zQ.prog w=.ok (.agg #[b,h,c,f]) w:=by refine⟨?_,?_⟩<;>kernel_rfl
def ZX(p q:Nat×Nat)(i:p.1<M/\p.2<M)(j:q.1<M/\q.2<M)(w:WR):
  (Op.equalIn 10000 72 (.agg (bX p).toArray) (.agg (bX q).toArray)).run zQ.prog w=.ok (decide (p.1=q.1) && decide (p.2=q.2)) w:=by
 have o:zQ.prog.underlying 72=some (.struct (zQ.prog.fieldsOf 72)):=by unfold Program.fieldsOf;rw[aC,underlying72]
 rw[run_equalIn_struct (P:=zQ.prog) w 9999 72 _ _ o kR];unfold Program.fieldsOf;rw[aC,underlying72];unfold bX;have n:=fun c b a f d h e g w=>(QK c b a f d h e g w).1;have m:=fun c b a f d h e g w=>(QK c b a f d h e g w).2;have k:=yI 9997 (aI p.1 0) (aI p.1 1) (aI p.1 2) (aI p.1 3) (aI q.1 0) (aI q.1 1) (aI q.1 2) (aI q.1 3);have l:=yI 9997 (aI p.2 0) (aI p.2 1) (aI p.2 2) (aI p.2 3) (aI q.2 0) (aI q.2 1) (aI q.2 2) (aI q.2 3);rw[FG _ _ i.1 j.1] at k;rw[FG _ _ i.2 j.2] at l;simp only[Op.eqFields,Sem.run_bind,Sem.run_ite,Sem.run_pure,Result.andThen_ok,n,m,k,l];generalize decide (p.1=q.1)=b;generalize decide (p.2=q.2)=a;cases b<;>cases a<;>simp
def QL(w:WR)(r:Option Nat):w.grownBy w r:=⟨rfl,rfl,rfl,aAz _,fun _ _ _=>rfl⟩
theorem ZY:∀(a:K3) (o:Nat) (W:WR),w.grownBy W (some g)->w.grownBy (W.setCells g o a) (some g)
 | [],_,_,h=>h
 |v::a,o,W,h=>ZY a (o+1) (W.sA g o v) ⟨h.os,h.tape,h.output,by simpa[World.sC] using h.size,fun k c b=>(Below.heap_setCell _ _ _ _ (by intro e;exact b (by rw[e]))).tr (h.block k c b)⟩
def nW{c:Code}{Q:Fg}(R:Nat->Nat->K6)(h:∃A:Nat->Nat->Act,c.wp P (fun e a' W=>e=.normal/\∃g n,a'=A g n/\R g n W) a w/\∀g n W,R g n W->Q .normal (A g n) W):c.wp P Q a w:=
 let⟨_,i,d⟩:=h
 Code.wp_mono (fun _ _ _ ⟨b,_,_,j,f⟩=>by subst b j;exact d _ _ _ f) i
def nX(h:W.ownsRow base e size v n xs):∀g,v.ownBlock=some g->base<=g:=fun g a=>by
 rcases h.2 with⟨rfl,_⟩| ⟨d,cap,b,rfl,c,_⟩
 .cases a
 .cases a;exact c
def dI(h:W.ownsRow base e size v n xs)(d:Bw W W'):W'.ownsRow base e size v n xs:=by refine⟨h.1,h.2.imp id ?_⟩;rintro⟨g,cap,a,c,b,h3,h4⟩;exact⟨g,cap,a,c,b,(d.block g (aAu.1 h3).1).tr h3,h4⟩
def nY{B:Nat}(h:W.grownBy W' r)(a:∀g,r=some g->B<=g)(c:B<=W.heap.size):Below B W W':=
 ⟨h.os,h.tape,h.output,h.size,fun k b=>h.block k oM (fun e=>by have:=a k e.symm;omega)⟩
def Ab:∃i z,zQ.prog.info? 72=some i/\i.zero=some z/\i.size=8/\i.bytes=64/\z.cells.size=8:=by
 have e8:(zQ.prog.info? 72).map (·.size)=some 8:=kR
 have b:(zQ.prog.info? 72).map (·.bytes)=some 64:=kR
 have a:((zQ.prog.info? 72).bind (·.zero)).map (·.cells.size)=some 8:=kR
 obtain⟨i,d⟩:∃i,zQ.prog.info? 72=some i:=by
  cases h:zQ.prog.info? 72 with
  |none=>rw[h] at e8;cases e8
  |some i=>exact⟨i,rfl⟩
 rw[d] at e8 b a;replace a:i.zero.map (·.cells.size)=some 8:=a;cases c:i.zero with
 |none=>rw[c] at a;cases a
 |some z=>rw[c] at a;exact⟨i,z,d,c,aAv e8,aAv b,aAv a⟩
def iJ(h:W.ownsRow base e size v n xs):∀g,v.ownBlock=some g->g<W.heap.size:=fun g a=>by
 rcases h.2 with⟨rfl,_⟩| ⟨d,cap,b,rfl,_,c,_⟩
 .cases a
 .cases a;exact(aAu.1 c).1
def iK(h:W.ownsRow base e size v n xs)(i:W.grownBy W' r)(d:∀g,v.ownBlock=some g->r≠some g):W'.ownsRow base e size v n xs:=by have b:=iJ h;refine⟨h.1,h.2.imp id ?_⟩;rintro⟨g,cap,a,f,c,h3,h4⟩;subst f;exact⟨g,cap,a,rfl,c,(i.block g (b g rfl) (fun e=>d g rfl e.symm)).tr h3,h4⟩
def IV{a:Nat}(h:W.ownsRow base e size v n xs)(f:a<=base):W.ownsRow a e size v n xs:=
 ⟨h.1,h.2.imp id fun⟨g,cap,b,d,c,h3⟩=>⟨g,cap,b,d,aAw f c,h3⟩⟩
def ZZ:∃i z,zQ.prog.info? 52=some i/\i.zero=some z/\i.size=8/\i.bytes=88/\z.cells.size=8:=by
 have e8:(zQ.prog.info? 52).map (·.size)=some 8:=kR
 have b:(zQ.prog.info? 52).map (·.bytes)=some 88:=kR
 have a:((zQ.prog.info? 52).bind (·.zero)).map (·.cells.size)=some 8:=kR
 obtain⟨i,d⟩:∃i,zQ.prog.info? 52=some i:=by
  cases h:zQ.prog.info? 52 with
  |none=>rw[h] at e8;cases e8
  |some i=>exact⟨i,rfl⟩
 rw[d] at e8 b a;replace a:i.zero.map (·.cells.size)=some 8:=a;cases c:i.zero with
 |none=>rw[c] at a;cases a
 |some z=>rw[c] at a;exact⟨i,z,d,c,aAv e8,aAv b,aAv a⟩
def eJ:List (bF×SV)->K3
 | []=>[]
 |p::a=>aV p.1 p.2++eJ a
def FH(d:bF)(s:SV):∀v∈aV d s,v.oneCell'=true:=fun v h=>by simp only[aV,aAx,aAC,or_false] at h;rcases h with h|h|h|h|h|h|h|h<;>rw[h]<;>rfl
theorem mU:∀(a b:List (bF×SV)),eJ (a++b)=eJ a++eJ b
 | [],_=>rfl
 |p::a,b=>by rw[aBi,eJ,eJ,mU a b,aBL]
def kept(ss:List (Nat×Nat)):List (Nat×Nat):=ss.filter fun q=>decide (q.2≠0)
def UL(ss:List (Nat×Nat))(c:Nat)(a:c<ss.length)(h:¬ss[c].2=0):kept (ss.take (c+1))=kept (ss.take c)++[ss[c]]:=by
 have e:List.filter (fun q:Nat×Nat=>decide (q.2≠0)) [ss[c]]=[ss[c]]:=by simp[List.filter,h]
 unfold kept;rw[<-aCh a,List.filter_append,e]
def UM(ss:List (Nat×Nat))(c:Nat)(a:c<ss.length)(h:ss[c].2=0):kept (ss.take (c+1))=kept (ss.take c):=by
 have e:List.filter (fun q:Nat×Nat=>decide (q.2≠0)) [ss[c]]=[]:=by simp[List.filter,h]
 unfold kept;rw[<-aCh a,List.filter_append,e,aCb]
theorem rY:∀(a b:List (Nat×Nat)),eW (a++b)=eW a++eW b
 | [],_=>rfl
 |p::a,b=>by rw[aBi,eW,eW,rY a b,aBL]
def kp(d:bF):bF:={d with bE:=kept d.bE}
structure Ys (w W:WR)(pb:Nat)(ds:List (bF×SV))(k:Nat)(vA:SV)(es:List (bF×SV)):Prop where
 below:Below w.heap.size w W
 lo:w.heap.size<=pb
 lt:pb<W.heap.size
 cell:W.cell? ⟨pb,0,none⟩=some (.slice vA.a vA.n vA.c)
 rest:cI W pb 1 [.int .i64 0,.slice none 0 0,.int .i64 0,.slice none 0 0]
 fz:W.frozen? ⟨pb,0,none⟩=false
 own:W.ownsRow (pb+1) 52 8 (.slice vA.a vA.n vA.c) k (eJ es)
 mu:es.map (·.1)=(ds.take k).map fun p=>kp p.1
 sl:∀p∈es,W.ownsRow (pb+1) 72 8 (.slice p.2.a p.2.n p.2.c) p.1.bE.length (eW p.1.bE)/\∀g,(Value.slice p.2.a p.2.n p.2.c).ownBlock=some g->(Value.slice vA.a vA.n vA.c).ownBlock≠some g
def Lx(n:Nat)(h:n<M)(W:WR):(Op.equalIn 10000 41 (wd n) (.agg wz)).run zQ.prog W=.ok (decide (n=0)) W:=by
 have:=rW n 0 h dC W;have e:wd 0=.agg wz:=by simp[wd,aI]
 rw[e] at this;exact this
theorem nZ{a:Type}[DecidableEq a](k:a)(v:vZ):∀l:List (a×vZ),k∉l.map (·.1)->kG k v l=l++[(k,v)]
 | [],_=>rfl
 |p::l,h=>by have c:k≠p.1:=fun e=>h (by simp[e]);have b:k∉l.map (·.1):=fun e=>h (by rw[aBl];exact aAR _ e);rw[kG,if_neg c,nZ k v l b];rfl
def vQ(ss:List (Nat×Nat)):List (Nat×vZ):=(kept ss).map fun q=>(q.1,wd q.2)
def CO(ss:List (Nat×Nat))(k:Nat)(h:k∈(vQ ss).map (·.1)):∃q∈ss,q.1=k:=by simp only[vQ,aAS] at h;obtain⟨q,a,rfl⟩:=aAJ.1 h;exact⟨q,(aCU.1 a).1,rfl⟩
def yO{mt:Fh}(w:WR):(Instr.makeMap mt none).run zQ.prog w=.ok (.map (some w.heap.size)) (w.alloc (.map #[] 0)):=by unfold Instr.makeMap;simp
def FI{m cap:Nat}{j:K3}(h:W.ownsRow base e size (.slice (some ⟨g,0,none⟩) (n+m) cap) (n+m) (xs++j))(i:xs.length=n*size):W.ownsRow base e size (.slice (some ⟨g,0,none⟩) n cap) n xs:=by
 rcases h.2 with⟨b,_⟩| ⟨r,f,a,b,q,o,l,c,d,p⟩
 .simp at b
 .simp only[Value.slice.injEq,aAF,Addr.mk.injEq,and_true,true_and] at b;obtain⟨rfl,rfl⟩:=b;refine⟨i,.inr ⟨g,cap,a,rfl,q,o,oM,c,d,?_⟩⟩;have k:a.toList.take (n*size)=(a.toList.take ((n+m)*size)).take (n*size):=by rw[aCY,aCm (aCe _ oM)]
  rw[k,p,<-i,List.take_left]
def wO(w:WR)(t y:Fh)(base:Nat)(e:Fh)(i:TypeInfo)(z:vZ)(size bytes:Nat)(A:P.underlying t=some (.slice e))(G:P.info? e=some i)(L:i.zero=some z)(d:i.size=size)(s:i.bytes=bytes)(I:z.cells.size=size)(C:0<size)(v:vZ)(n:Nat)(xs:K3)(a:w.ownsRow base e size v n xs)(r:Addr)(m c:Nat)(b:K3)(D:b.length=m*size)(f:∀j u,b[j]?=some u->w.cell? (r.add j)=some u)(K:∀u∈b,u.oneCell'=true)(U:0<m)(q:n+m<=maxLen)(h:(n+m)*bytes<=140737488355328)(p:base<=w.heap.size)(H:Nat)(R:w.heap.size=H):
  ∃g cap w',(Builtin.append_ #[t,t] y #[v,.slice (some r) m c]).run P w=.ok (.slice (some ⟨g,0,none⟩) (n+m) cap) w'/\
   w'.ownsRow base e size (.slice (some ⟨g,0,none⟩) (n+m) cap) (n+m) (xs++b)/\w.grownBy w' v.ownBlock/\(v.ownBlock=some g\/g=H)/\g<w'.heap.size/\w'.ownsRow base e size v n xs:=by
 have⟨g,cap,w',E,J,h3,h4,N⟩:=run_append_lies (P:=P) w t y base e i z size bytes A G L d s I C v n xs a r m c b D f K U q h p H R;refine⟨g,cap,w',E,J,h3,h4,N,?_⟩;rcases a.2 with⟨rfl,rfl⟩| ⟨B,l,O,rfl,Q,W,S,M,T,F⟩
 .exact⟨a.1,.inl ⟨rfl,rfl⟩⟩
 .by_cases o:n+m<=l
  .have⟨w2,k,V,_⟩:=run_append_fits (P:=P) w base t y e i size A G d B n l xs a r m c b D f K o;rw[E] at k;simp only[Result.ok.injEq,Value.slice.injEq,aAF,Addr.mk.injEq,and_true,true_and] at k;obtain⟨⟨rfl,rfl⟩,rfl⟩:=k;exact FI J a.1
  .have x:n+m<=9223372036854775807:=by simp only[maxLen] at q;omega
   have k:=run_append_grow (P:=P) w t y e i z A G L ⟨B,0,none⟩ n l xs (by rw[d];exact a.1) (a.cells (g:=B) rfl) r m c b (by rw[d];exact D) f oM oM (growslice_fits oM (by rw[s];exact h));rw[E] at k;injection k with _ hw;rw[hw];exact dI (W:=w) a (bR.drew.aL lR _)
def gU(w:WR){K:Fi}{Q:Fg}(s x:Operand)(t:Fh)(I:o.op=.call {callee:=.builtin .append,args:=#[s,x],argTypes:=#[t,t]})(base:Nat)(e:Fh)(i:TypeInfo)(z:vZ)(size bytes:Nat)(D:P.underlying t=some (.slice e))(O:P.info? e=some i)(G:i.zero=some z)(f:i.size=size)(A:i.bytes=bytes)(B:z.cells.size=size)(r:0<size)(v:vZ)(n:Nat)(xs:K3)(N:a.eval s=v)(p:w.ownsRow base e size v n xs)(y:Addr)(m c:Nat)(b:K3)(R:a.eval x=.slice (some y) m c)(J:b.length=m*size)(l:∀j u,b[j]?=some u->w.cell? (y.add j)=some u)(E:∀u∈b,u.oneCell'=true)(S:0<m)(q:n+m<=maxLen)(d:(n+m)*bytes<=140737488355328)(k:base<=w.heap.size)(H:Nat)(L:w.heap.size=H)(h:∀g cap w',w'.ownsRow base e size (.slice (some ⟨g,0,none⟩) (n+m) cap) (n+m) (xs++b)->w.grownBy w' v.ownBlock->(v.ownBlock=some g\/g=H)->g<w'.heap.size->w'.ownsRow base e size v n xs->K (a.put o.dst (.slice (some ⟨g,0,none⟩) (n+m) cap)) w'):o.wp P a w K Q:=by
 have⟨g,cap,w',M,C,h3,h4,F,T⟩:=wO (P:=P) w t o.type base e i z size bytes D O G f A B r v n xs p y m c b J l E S q d k H L;unfold Oper.wp execOp;simp only[I,resolve,invoke,builtin,Sem.run_bind,Sem.run_pure,Result.andThen_ok,List.map_toArray,aBl,aCC,N,R,M];exact h g cap w' C h3 h4 F T
def jW(w:WR){f:List Oper}{Q:Fg}(r:o.guard=none)(s x:Operand)(t:Fh)(L:o.op=.call {callee:=.builtin .append,args:=#[s,x],argTypes:=#[t,t]})(base:Nat)(e:Fh)(i:TypeInfo)(z:vZ)(size bytes:Nat)(F:P.underlying t=some (.slice e))(R:P.info? e=some i)(K:i.zero=some z)(k:i.size=size)(C:i.bytes=bytes)(D:z.cells.size=size)(A:0<size)(v:vZ)(n:Nat)(xs:K3)(O:a.eval s=v)(q:w.ownsRow base e size v n xs)(B:Addr)(m c:Nat)(b:K3)(S:a.eval x=.slice (some B) m c)(M:b.length=m*size)(p:∀j u,b[j]?=some u->w.cell? (B.add j)=some u)(G:∀u∈b,u.oneCell'=true)(T:0<m)(y:n+m<=maxLen)(d:(n+m)*bytes<=140737488355328)(l:base<=w.heap.size)(H:Nat)(N:w.heap.size=H)(h:∀g cap w',w'.ownsRow base e size (.slice (some ⟨g,0,none⟩) (n+m) cap) (n+m) (xs++b)->w.grownBy w' v.ownBlock->(v.ownBlock=some g\/g=H)->g<w'.heap.size->w'.ownsRow base e size v n xs->wpList P ops Q f (a.put o.dst (.slice (some ⟨g,0,none⟩) (n+m) cap)) w'):wpList P ops Q (o::f) a w:=
 wpList_plain r fun _ I=>gU w s x t L base e i z size bytes F R K k C D A v n xs O q B m c b S M p G T y d l H N fun g cap w' E h3 h4 J U=>I _ _ (h g cap w' E h3 h4 J U)
structure Kept (X:Nat->Prop)(w w':WR):Prop where
 os:w'.os=w.os
 tape:w'.tape=w.tape
 output:w'.output=w.output
 size:w.heap.size<=w'.heap.size
 block:∀k,k<w.heap.size->¬X k->w'.heap[k]?=w.heap[k]?
def Kept.refl(X:Nat->Prop)(w:WR):Kept X w w:=⟨rfl,rfl,rfl,aAz _,fun _ _ _=>rfl⟩
def yP{v:WR}(h:w.grownBy v r):Kept (fun g=>r=some g) w v:=⟨h.os,h.tape,h.output,h.size,fun k a b=>h.block k a (fun e=>b e.symm)⟩
def FJ(w:WR)(p:Addr)(u:vZ):Kept (fun g=>g=p.block) w (w.setCell p u):=
 ⟨rfl,rfl,rfl,sI,fun k _ a=>heap_setCell_other w p k u a⟩
def dM(h:W.ownsRow base e size v n xs)(d:∀g,v.ownBlock=some g->W'.heap[g]?=W.heap[g]?):W'.ownsRow base e size v n xs:=by refine⟨h.1,h.2.imp id ?_⟩;rintro⟨g,cap,a,c,b,h3,h4⟩;subst c;exact⟨g,cap,a,rfl,b,(d g rfl).tr h3,h4⟩
def cL(h:W.ownsRow base e size v n xs):∀g,v.ownBlock=some g->∃a,W.heap[g]?=ob a e:=fun g b=>by
 rcases h.2 with⟨rfl,_⟩| ⟨c,cap,a,rfl,_,h3,_⟩
 .cases b
 .cases b;exact⟨a,h3⟩
structure T2 (w W:WR)(a b:Nat):Prop where
 below:Below w.heap.size w W
 x:cI W w.heap.size 0 [.int .u64 (aI a 0),.int .u64 (aI a 1),.int .u64 (aI a 2),.int .u64 (aI a 3)]
 y:cI W (w.heap.size+1) 0 [.int .u64 (aI b 0),.int .u64 (aI b 1),.int .u64 (aI b 2),.int .u64 (aI b 3)]
section
open Go.Shelf
attribute [local go_sem] wd
def wy(x y b:Int)(g:0<=x)(d:0<=y)(f:y<18446744073709551616)(a:0<=b)(h:b<=1)(w:WR):(callFunc 132 #[.int .u64 x,.int .u64 y,.int .u64 b]).run zQ.prog w=
  .ok (.value (.tuple #[.int .u64 ((x - y - b) % 18446744073709551616),.int .u64 (if x<y+b then 1 else 0)])) w:=by
 obtain⟨x,rfl⟩:=aAW g;obtain⟨y,rfl⟩:=aAW d;obtain⟨b,rfl⟩:=aAW a;have c:(((x+18446744073709551616 - y - b) % 18446744073709551616:Nat):Int)=((x:Int) - y - b) % 18446744073709551616:=oM
 have e:((if x<y+b then 1 else 0:Nat):Int)=if(x:Int)<y+b then 1 else 0:=by split<;>split<;>omega
 rw[<-c,<-e];rw[run_callFunc_extern Yq kR kR kR (e:=sub64Entry) kR,run_sub64 x y b oM];rfl
def FK(x y c:Int)(f:0<=x)(d:0<=y)(b:y<18446744073709551616)(a:0<=c)(e:c<=1):∀w,(callFunc 132 #[.int .u64 x,.int .u64 y,.int .u64 c]).run zQ.prog w=
 .ok (.value (.tuple #[.int .u64 (sL x y c),.int .u64 (sH x y c)])) w:=fun w=>wy x y c f d b a e w
def add(a b:Nat)(d:a<M)(g:b<M)(w:WR):
  Cq 106 #[wd a,wd b] w fun e w'=>e=.rt (wd ((a+b) % M))/\Bw w w':=by
 go_enter (qz func106),ntmps106;go_wp2_with fail;apply(sum a b d g _).mono;rintro e w1 ⟨rfl,c⟩;have⟨h,j⟩:=Fl c;have i:w.heap.size+1+1<w1.heap.size:=by have:=c.size;simp at this;omega
 have f:Bw w w1:=(ZT w _ _ _).tr (c.mono (ZT w _ _ _).size);go_wp2;simp[bodyPost,results,results106,go_sem,h,i];exact((((f.sC sQ5 _).sC sQ5 _).sC sQ5 _).sC sQ5 _).aL sQ0 _
def Fu(b a1 a2 a3 a c d f:Int)(w:WR)(m:0<=b)(k:0<=a1)(p2:0<=a2)(p3:0<=a3)(g:0<=a)(i:0<=c)(n:0<=d)(j:0<=f)(v0:a<18446744073709551616)(v1:c<18446744073709551616)(l:d<18446744073709551616)(h:f<18446744073709551616):
  Cq 89 #[.agg #[vU b,vU a1,vU a2,vU a3],.agg #[vU a,vU c,vU d,vU f]] w fun e w'=>
   e=.rt (.agg #[vU (sL b a 0),vU (sL a1 c (sH b a 0)),vU (sL a2 d (sH a1 c (sH b a 0))),vU (sL a3 f (sH a2 d (sH a1 c (sH b a 0))))])/\Bw w w':=by
 have o:=FK b a 0 m g v0 (aBq 0) dC;have p:=FK a1 c _ k i v1 (zx b a 0) (zy b a 0);have q:=FK a2 d _ p2 n l (zx a1 c (sH b a 0)) (zy _ _ _);have r:=FK a3 f _ p3 j h (zx a2 d (sH a1 c (sH b a 0))) (zy _ _ _);clear v0 v1 l h m k p2 p3 g i n j;go_enter (qz func89),ntmps89;go_wp2;refine wp_loop_rounds 5 ?_;rw[rounds_succ];go_wp2
 go_region
 go_wp2;rw[rounds_succ];go_wp2
 go_region
 go_wp2;rw[rounds_succ];go_wp2
 go_region
 go_wp2;rw[rounds_succ];go_wp2
 go_region
 go_wp2;rw[rounds_succ];go_wp2;simp[bodyPost,results,results89,go_sem];exact(ZS _ _ _ _ _).drew.drew.drew.drew
def sub(a b:Nat)(d:a<M)(j:b<M)(w:WR):
  Cq 89 #[wd a,wd b] w fun e w'=>e=.rt (wd ((a+M - b) % M))/\Bw w w':=by
 refine(Fu _ _ _ _ _ _ _ _ w (bJ a 0) (bJ a 1) (bJ a 2) (bJ a 3) (bJ b 0) (bJ b 1) (bJ b 2) (bJ b 3)
  (bN b 0) (bN b 1) (bN b 2) (bN b 3)).mono fun e w' ⟨f,c⟩=>?_
 have⟨i,h,g,h3⟩:=ox a b d j;unfold wd;rw[i,h,g,h3];exact⟨f,c⟩
def ab(a b:Nat):decide (dZ a b<0)=decide (a<b):=by
 unfold dZ;by_cases h:(a:Int)<b
 .rw[if_pos h];have:a<b:=oM
  simp[this]
 .rw[if_neg h];have:¬a<b:=oM
  split<;>simp[this]
def less(a b:Nat)(g:a<M)(h:b<M)(w:WR):
  Cq 117 #[wd a,wd b] w fun e w'=>e=.rt (.bool (decide (a<b)))/\Bw w w':=by
 rw[<-ab];have d:=compare a b g h;generalize dZ (a:Int) (b:Int)=c at d⊢;go_enter (qz func117),ntmps117;go_wp2_with fail;apply(d _).mono;rintro e w1 ⟨rfl,f⟩;clear d;go_wp2;go_ret;exact⟨rfl,Below.tr ((ba).alloc sI _) (f.mono sQ0)⟩
end
def ae(w:WR):Cq 147 #[vB 0] w fun e w'=>e=.rt (vI 1)/\w'=w:=by go_enter (qz func147),ntmps147;go_wp2;go_ret;exact⟨rfl,rfl⟩
def oz(w:WR):Cq 290 #[vB 0] w fun e w'=>e=.rt (.tuple #[.agg #[vI 0,vI 0,vI 0],.bool true])/\Bw w w':=by go_enter (qz func290),ntmps290;go_wp2;simp[bodyPost,results,results290,go_sem];first|exact bR.aL lR _|exact (ba).aL sI _
end Go.Mark
