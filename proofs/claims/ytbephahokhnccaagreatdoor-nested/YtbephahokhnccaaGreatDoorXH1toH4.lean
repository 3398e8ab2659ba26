import Derived.Test.YtbephahokhnccaaGreatDoorXN3toN1
import Derived.Test.YtbephahokhnccaaGreatDoorXD14toD15
set_option linter.unusedSectionVars false
set_option maxRecDepth 100000
set_option maxHeartbeats 4000000
namespace Go.Mark
open Go.RowKit Go.Proofs Go.Lift Go.Conc
variable [BaseB]
def IsMap : Obj -> Prop
 | .map _ _=>True
 | _=>False
structure Tw (v u : World) : Prop where
 size : v.heap.size <= u.heap.size
 obj : ∀ (b : Nat) (o : Obj),v.heap[b]? = some o -> Cq o \/ IsMap o -> u.heap[b]? = some o
theorem Tw.refl (v : World) : Tw v v:=⟨Nat.le_refl _,fun _ _ h _=>h⟩
theorem Tw.trans {v u x : World} (h : Tw v u) (k : Tw u x) : Tw v x:=⟨Nat.le_trans h.size k.size,fun b o h1 h2=>k.obj b o (h.obj b o h1 h2) h2⟩
theorem Ahs {v u : World} (h : Below v.heap.size v u) : Tw v u:=⟨h.size,fun b _ h1 _=>(h.block b (Array.getElem?_eq_some_iff.1 h1).1).trans h1⟩
theorem Tw.cell {v u : World} (h : Tw v u) {a : Addr} {x : Value} (hc : v.cell? a = some x) : u.cell? a = some x:=by
 unfold World.cell? at hc ⊢
 cases hb : v.heap[a.block]? with
 | none=>rw [hb] at hc; cases hc
 | some o =>
  rw [hb] at hc
  cases o with
  | cells c e f=>rw [h.obj a.block _ hb (.inl trivial)]; exact hc
  | _=>cases hc
theorem CellsAt.tw {v u : World} {b o : Nat} {l : List Value} (hc : CellsAt v b o l) (h : Tw v u) : CellsAt u b o l:=fun j x hj=>h.cell (hc j x hj)
theorem MapB.tw {κ : Type} {kf : κ -> Value} {v u : World} {r : Nat} {l : List (κ × Value)} (hm : MapB kf v r l) (h : Tw v u) : MapB kf u r l:=let ⟨es,c,h1,h2⟩:=hm; ⟨es,c,h.obj r _ h1 (.inr trivial),h2⟩
theorem An3 {v u : World} {base size n : Nat} {e : TypeId} {x : Value} {xs : List Value} (ho : v.ownsRow base e size x n xs) (h : Tw v u) : u.ownsRow base e size x n xs:=by
 refine ⟨ho.1,ho.2.imp id ?_⟩
 rintro ⟨g,cap,cur,h1,h2,h3,h4⟩
 exact ⟨g,cap,cur,h1,h2,h.obj g _ h3 (.inl trivial),h4⟩
theorem InR.tw {v u : World} {a : Option Addr} {ds : List (Bt × SV)} (hi : InR v a ds) (h : Tw v u) : InR u a ds :=
 ⟨hi.acc.imp id fun ⟨b,o,h1,h2⟩=>⟨b,o,h1,fun i p hp=>(h2 i p hp).tw h⟩,fun p hp=>⟨(hi.sl p hp).1,(hi.sl p hp).2.imp id fun ⟨b,o,h1,h2⟩=>⟨b,o,h1,fun i q hq=>(h2 i q hq).tw h⟩⟩,hi.bal,hi.num,hi.key,hi.len⟩
theorem LG.tw {v u : World} {l m : Nat} {dm : Dm} {cr : Int} {L : AL} {J : List Value} (hl : LG v l m dm cr L J) (h : Tw v u) : LG u l m dm cr L J:=by
 obtain ⟨jv,h1,h2⟩:=hl.lj.ex
 exact ⟨⟨hl.lj.lo,jv,h.obj _ _ h1 (.inl trivial),An3 h2 h⟩,hl.map.tw h,hl.dmap.tw h,fun q hq=>h.obj _ _ (hl.acc q hq) (.inl trivial),fun q hq=>(hl.slot q hq).tw h,hl.nd,hl.ndb,hl.bal,hl.key,hl.ndk,hl.ndm,hl.nms,hl.nmd,hl.ndd,hl.lo,hl.mlo⟩
structure MadeL (W : World) (pl : Nat) (ds : List (Bt × SV)) (L : AL) : Prop where
 lg : ∃ m dmb,LG W pl m ⟨dmb,[]⟩ 0 L []
 len : L.length = ds.length
 lst : ∀ (i : Nat) (d : Bt),(ds[i]?).map (fun p : Bt × SV=>p.1) = some d -> ∃ pa ms bb,L[i]? = some (Gz d ⟨some ⟨bb,0,none⟩,d.code.size,d.code.size⟩ pa ms) /\ W.heap[bb]? = ob (marks d.code d.code.size 0 (zeros d.code.size)) 4
theorem MadeL.tw {v u : World} {pl : Nat} {ds : List (Bt × SV)} {L : AL} (hm : MadeL v pl ds L) (h : Tw v u) : MadeL u pl ds L :=
 ⟨let ⟨m,d,hl⟩:=hm.lg; ⟨m,d,hl.tw h⟩,hm.len,fun i d hd=>let ⟨pa,ms,bb,h1,h2⟩:=hm.lst i d hd; ⟨pa,ms,bb,h1,h.obj _ _ h2 (.inl trivial)⟩⟩
theorem J3 {D D' : Nat -> Prop} {o : Obj} : Hl (veil D) o ↔ Hl (veil D') o:=by cases o <;> exact Iff.rfl
theorem X3 {D : Nat -> Prop} {o : Obj} (h : ¬ Hl (veil D) o) : ¬ Cq o /\ ¬ IsMap o :=
 ⟨fun hc=>by cases o <;> first | exact hc.elim | exact h trivial,fun hc=>by cases o <;> first | exact hc.elim | exact h trivial⟩
def Dk (B : Nat) (D : Nat -> Prop) (w : World) : Prop:=∀ b,D b -> (B <= b /\ ∃ c e,w.heap[b]? = some (.cells c e)) \/ (b < B /\ ∃ o,w.heap[b]? = some o /\ ¬ Hl (veil D) o /\ ¬ Dw o)
theorem dk_z {B : Nat} {D : Nat -> Prop} {w : World} (h : Dk B D w) (b : Nat) (hb : D b) : (∃ c e,w.heap[b]? = some (.cells c e)) \/ ∃ o,w.heap[b]? = some o /\ ¬ Hl (veil D) o /\ ¬ Dw o :=
 (h b hb).imp (·.2) (·.2)
theorem X6 {D : Nat -> Prop} {z : Prop} {x y y' : Option Obj} (h : Z8 z x y) (h' : Z8 z x y') (hz : z -> (∃ c e,x = some (.cells c e)) \/ ∃ o,x = some o /\ ¬ Hl (veil D) o /\ ¬ Dw o) {o : Obj} (ho : y = some o) (hg : Cq o \/ IsMap o) : y' = some o:=by
 cases h with
 | dark hd =>
  cases ho
  cases h' with
  | dark _=>rfl
  | shut _ hn=>exact absurd trivial hn
  | view hv=>exact hv.elim
  | same hs=>exact absurd trivial ((hs _ rfl).2 hd)
 | shut hd hn =>
  cases ho
  rcases hg with hg | hg <;> exact hg.elim
 | view hv hb =>
  cases ho
  cases o <;> first | exact hb.elim | (rcases hg with hg | hg <;> exact hg.elim)
 | same hs =>
  subst ho
  have hno : ¬ z:=fun hd=>by
   rcases hz hd with ⟨c,e,hc⟩ | ⟨o',hc,hf,_⟩
   ·cases hc
    exact (hs _ rfl).2 hd trivial
   ·cases hc
    rcases hg with hg | hg
    ·exact (X3 hf).1 hg
    ·exact (X3 hf).2 hg
  cases h' with
  | dark hd=>exact absurd hd hno
  | shut hd=>exact absurd hd hno
  | view hv=>exact absurd hv (hs _ rfl).1
  | same _=>rfl
theorem Kl {B : Nat} {D : Nat -> Prop} {w v u : World} (hk : Dk B D w) (h : Rel (veil D) w v) (h' : Rel (veil D) w u) : Tw v u :=
 ⟨by rw [h.size,h'.size]; exact Nat.le_refl _,fun b o h1 h2=>X6 (h.look b) (h'.look b) (dk_z hk b) h1 h2⟩
theorem Ak3 {D : Nat -> Prop} {w v : World} (h : Rel (veil D) w v) {b : Nat} {c : Array Value} {e : TypeId} {f : Nat × Nat} (hb : v.heap[b]? = some (.cells c e f)) (he : 0 < c.size) : w.heap[b]? = some (.cells c e f):=by
 have hl:=h.look b
 rw [hb] at hl
 generalize hx : w.heap[b]? = x at hl
 cases hl with
 | dark hd=>simp at he
 | view _ hbl=>exact hbl.elim
 | same _=>rfl
section
open Go.Walk Go.Phase
end
end Go.Mark
namespace Go.Mark
open Go.Conc Go.Walk Go.Phase Go.RowKit Go.Conc.Lib Go.ConcR.Gen Go.ConcN.Gen Go.Lift Go.Proofs
open Go.ConcN (WgLive Has RW DWs AtR0 PayAt)
open Go.ConcR (KK WgAt stA smA rd wr mk Payload)
variable [BaseB]
section
noncomputable def Ack : Array Oper:=match Tryz.f35.body with
 | some (.seq _ (.seq (.region _ o _) _))=>o
 | _=>#[]
section
variable {h0 : Array Obj} {b n cap mb : Nat} {cs : List Frame}
theorem Amd : GoW Tryz.prog true AtRel Ig (fun g w=>g = G ((base 60).at ⟨#[.slice (some ⟨b,0,none⟩) n cap] ++ Array.replicate 21 ud,[]⟩ [.code (Tryz.f60.body.getD .skip)]) ((base 35).at ⟨#[.slice (some ⟨b,0,none⟩) n cap,ud,.pointer none,ud,ud,ud,ud,.slice (some ⟨b,0,none⟩) n cap,ud,ud,ud,ud,ud,ud,ud,ud,ud,ud,ud,ud,ud,ud,ud,ud,ud,ud,ud,ud,ud,ud,ud,ud,ud,ud,ud,ud,ud,ud,ud,ud,ud,ud,ud,ud,ud,ud],[]⟩ (.inRegion Ack [1,2] :: [.code c17]) :: cs) /\ w.heap = h0) (fun w=>w.heap = h0) 30
   (G ((base 35).at ⟨#[.slice (some ⟨b,0,none⟩) n cap] ++ Array.replicate 45 ud,[]⟩ [.code (Tryz.f35.body.getD .skip)]) cs):=by
 have E:=K6 h0
 obtain ⟨bd,hbd⟩ : ∃ c,c = c17:=⟨_,rfl⟩
 have hbd':=hbd
 simp only [c17,Tryz.f35] at hbd'
 rw [<- hbd]
 simp only [Tryz.f35,Option.getD_some]
 rw [<- hbd']
 walk_nrm
 repeat (first
  | refine Bj E ?_
  | refine Ah E ?_
  | refine Ar E ?_
  | refine Ck E ?_
  | (refine A9 E rfl rfl (by k_ne) (fun w hF K hK=>?_); go_simp; refine hK _ (by simp [go_sem, *]) ?_; clear hK K hF w; try w_num))
 refine Df E rfl rfl (by k_ne) rfl Tryz.func60 (by kernel_rfl) (c:=Tryz.f60.body.getD .skip) rfl ?_
 walk_nrm
 exact Bp E (fun w hw=>⟨by rw [hbd]; rfl,hw⟩)
theorem Arc : GoW Tryz.prog true AtRel Ig (fun g w=>g = G ((base 35).at ⟨#[.slice (some ⟨b,0,none⟩) n cap,ud,.pointer none,sl mb n,ud,ud,ud,.slice (some ⟨b,0,none⟩) n cap,sl mb n,ud,ud,ud,ud,ud,ud,ud,ud,ud,ud,ud,ud,ud,ud,ud,ud,ud,ud,ud,ud,ud,ud,ud,ud,ud,ud,ud,ud,ud,ud,ud,ud,ud,ud,ud,ud,ud],[]⟩ [.code c17]) cs /\ w.heap = h0) (fun w=>w.heap = h0) 30
   (G ((base 35).at ⟨#[.slice (some ⟨b,0,none⟩) n cap,ud,.pointer none,ud,ud,ud,ud,.slice (some ⟨b,0,none⟩) n cap,sl mb n,ud,ud,ud,ud,ud,ud,ud,ud,ud,ud,ud,ud,ud,ud,ud,ud,ud,ud,ud,ud,ud,ud,ud,ud,ud,ud,ud,ud,ud,ud,ud,ud,ud,ud,ud,ud,ud],[]⟩ (.inRegion Ack [2] :: [.code c17])) cs):=by
 have E:=K6 h0
 obtain ⟨bd,hbd⟩ : ∃ c,c = c17:=⟨_,rfl⟩
 rw [<- hbd]
 simp only [Ack,Tryz.f35]
 refine A9 E rfl rfl (by k_ne) (fun w hF K hK=>?_) 
 go_simp
 refine hK _ (by simp [go_sem, *]) ?_
 clear hK K hF w
 refine Ah E ?_
 exact Bp E (fun w hw=>⟨rfl,hw⟩)
end
theorem Aac {D : Nat -> Prop} {w v : World} (h : Rel (veil D) w v) {b : Nat} {c : Array Value} {e : TypeId} {f : Nat × Nat} (hb : w.heap[b]? = some (.cells c e f)) (hd : ¬ D b) : v.heap[b]? = some (.cells c e f):=by
 have hl:=h.look b
 rw [hb] at hl
 generalize v.heap[b]? = x at hl
 cases hl with
 | dark hz=>exact absurd hz hd
 | shut hz=>exact absurd hz hd
 | view hv=>exact hv.elim
 | same _=>rfl
theorem Agt {B : Nat} {D : Nat -> Prop} {w v : World} (hk : Dk B D w) (h : Rel (veil D) w v) (b : Nat) (hb : D b) : (B <= b /\ ∃ e,v.heap[b]? = some (.cells #[] e)) \/ (b < B /\ v.heap[b]? = some (.coro none)):=by
 rcases hk b hb with ⟨h1,c,e,hc⟩ | ⟨h1,o,ho,hf,hv⟩
 ·refine .inl ⟨h1,?_⟩
  have hl:=h.look b
  rw [hc] at hl
  generalize v.heap[b]? = x at hl
  cases hl with
  | dark hz=>exact ⟨_,rfl⟩
  | shut _ hn=>exact absurd trivial hn
  | view hv=>exact hv.elim
  | same hs=>exact absurd trivial ((hs _ rfl).2 hb)
 ·refine .inr ⟨h1,?_⟩
  have hl:=h.look b
  rw [ho] at hl
  generalize hx : v.heap[b]? = x at hl
  cases hl with
  | dark hz=>exact absurd trivial hf
  | shut=>rfl
  | view hv'=>exact absurd hv' hv
  | same hs=>exact absurd (h.code b o hx) hf
structure On0 (B : Nat) (D' : Nat -> Prop) (w w' v' : World) : Prop where
 rel : Rel (veil D') w' v'
 dk : Dk B D' w'
 kw : ∀ b,b < B -> w'.heap[b]? = w.heap[b]?
 os : w'.os = w.os /\ w'.output = w.output
 up : w.heap.size <= w'.heap.size
structure OnTo (B : Nat) (Shun' : Loc -> Prop) (D' : Nat -> Prop) (w w' v v' : World) : Prop extends On0 B D' w w' v' where
 hid : Gn (veil D') Shun'
 tw : Tw v v'
theorem On0.trans {B : Nat} {D1 D2 : Nat -> Prop} {w w1 w2 v1 v2 : World} (h : On0 B D1 w w1 v1) (k : On0 B D2 w1 w2 v2) : On0 B D2 w w2 v2 :=
 ⟨k.rel,k.dk,fun b hb=>(k.kw b hb).trans (h.kw b hb),⟨k.os.1.trans h.os.1,k.os.2.trans h.os.2⟩,Nat.le_trans h.up k.up⟩
theorem OnTo.trans {B : Nat} {S1 S2 : Loc -> Prop} {D1 D2 : Nat -> Prop} {w w1 w2 v v1 v2 : World} (h : OnTo B S1 D1 w w1 v v1) (k : OnTo B S2 D2 w1 w2 v1 v2) : OnTo B S2 D2 w w2 v v2 :=
 ⟨h.toOn0.trans k.toOn0,k.hid,h.tw.trans k.tw⟩
theorem Aik {B : Nat} {D : Nat -> Prop} {w w' u v' : World} (hk : Dk B D w) (hu : Rel (veil D) w u) (hr : Rel (veil D) w' v') (hs : J7 w w' v') (hB : B <= w.heap.size) (hb : ∀ b,b < B -> v'.heap[b]? = u.heap[b]?) (hz : ∀ (b : Nat) (e : TypeId),u.heap[b]? = some (.cells #[] e) -> v'.heap[b]? = some (.cells #[] e)) (hsz : u.heap.size <= v'.heap.size) (ho : v'.os = u.os /\ v'.output = u.output) : On0 B D w w' v':=by
 have kw : ∀ b,b < B -> w'.heap[b]? = w.heap[b]?:=fun b hlt=>by
  have hnd : ∀ o,v'.heap[b]? = some o -> ¬ Off o -> ¬ D b:=fun o hv hoff hd=>by
   rcases Agt hk hu b hd with ⟨h1,_⟩ | ⟨_,h1⟩
   ·omega
   ·rw [<- hb b hlt,hv] at h1
    cases h1
    exact hoff (.inr rfl)
  cases hv : v'.heap[b]? with
  | none =>
   have:=Array.getElem?_eq_none_iff.1 hv
   have:=hu.size
   omega
  | some o =>
   by_cases hoff : Off o
   ·exact hs b o hv hoff (by omega)
   ·have hn:=hnd o hv hoff
    have hl:=hr.look b
    have hl':=hu.look b
    rw [<- hb b hlt] at hl'
    rw [hv] at hl hl'
    generalize w'.heap[b]? = x at hl ⊢
    generalize w.heap[b]? = y at hl' ⊢
    cases hl with
    | dark hd=>exact absurd hd hn
    | shut hd=>exact absurd hd hn
    | view _ hbl=>exact absurd (Or.inl (by cases o <;> first | exact hbl.elim | trivial)) hoff
    | same _ =>
     cases hl' with
     | dark hd=>exact absurd hd hn
     | shut hd=>exact absurd hd hn
     | view _ hbl=>exact absurd (Or.inl (by cases o <;> first | exact hbl.elim | trivial)) hoff
     | same _=>rfl
 refine ⟨hr,fun b hd=>?_,kw,⟨by rw [<- hr.os,ho.1,hu.os],by rw [<- hr.out,ho.2,hu.out]⟩,by rw [<- hr.size,<- hu.size]; exact hsz⟩
 rcases hk b hd with ⟨h1,c,e,hc⟩ | ⟨h1,o,h2,h3,h4⟩
 ·rcases Agt hk hu b hd with ⟨_,e',he⟩ | ⟨h2,_⟩
  ·refine .inl ⟨h1,?_⟩
   have hl:=hr.look b
   rw [hz b e' he] at hl
   generalize w'.heap[b]? = x at hl
   cases hl with
   | dark _=>exact ⟨_,_,rfl⟩
   | view _ hbl=>exact hbl.elim
   | same hs=>exact absurd trivial ((hs _ rfl).2 hd)
  ·omega
 ·exact .inr ⟨h1,o,(kw b h1).trans h2,h3,h4⟩
theorem Fj {B : Nat} {Shun : Loc -> Prop} {D : Nat -> Prop} {w w' v u v' : World} (hk : Dk B D w) (hrel : Rel (veil D) w v) (hhid : Gn (veil D) Shun) (hB : B <= w.heap.size) (hu : Rel (veil D) w u) (hr : Rel (veil D) w' v') (hs : J7 w w' v') (hb : Below u.heap.size u v') : OnTo B Shun D w w' v v' :=
 ⟨Aik hk hu hr hs hB (fun b hlt=>hb.block b (by rw [hu.size]; omega)) (fun b e he=>(hb.block b (Array.getElem?_eq_some_iff.1 he).1).trans he) hb.size ⟨hb.os,hb.output⟩,hhid,(Kl hk hrel hu).trans (Ahs hb)⟩
theorem D5 {B : Nat} {Shun : Loc -> Prop} {D : Nat -> Prop} {w w' v : World} (hk : Dk B D w) (hrel : Rel (veil D) w v) (hhid : Gn (veil D) Shun) (hh : w'.heap = w.heap) (ho : w'.os = w.os /\ w'.output = w.output) : OnTo B Shun D w w' v v :=
 ⟨⟨⟨by rw [hh]; exact hrel.size,fun b hb=>by rw [hh]; exact hrel.low b hb,fun b=>by rw [hh]; exact hrel.look b,hrel.code,by rw [ho.1]; exact hrel.os,by rw [ho.2]; exact hrel.out⟩,fun b hb=>by rw [hh]; exact hk b hb,fun b _=>by rw [hh],ho,by rw [hh]; exact Nat.le_refl _⟩,hhid,Tw.refl v⟩
end
theorem An6 {D : Nat -> Prop} {Shun : Loc -> Prop} {w v : World} (hr : Rel (veil D) w v) (hh : Gn (veil D) Shun) : ∀ l,Shun l -> ∃ a : Addr,l = .cell a /\ a.block < w.heap.size:=fun l hl=>by
 obtain ⟨a,e,hz⟩:=hh l hl
 exact ⟨a,e,hr.low _ hz⟩
theorem ok17 : Br Tryz.prog c17 = true:=by kernel_rfl
def D1 (D : Nat -> Prop) (g : Nat) (b : Nat) : Prop:=D b \/ b = g
def S1 (Shun : Loc -> Prop) (g : Nat) (l : Loc) : Prop:=Shun l \/ Go.ConcN.ShN g l
theorem Aox {D : Nat -> Prop} {Shun : Loc -> Prop} {g : Nat} (h : Gn (veil D) Shun) : Gn (veil (D1 D g)) (S1 Shun g):=fun l hl=>by
 rcases hl with hl | ⟨a,e,hb⟩
 ·obtain ⟨a,e,hz⟩:=h l hl
  exact ⟨a,e,.inl hz⟩
 ·exact ⟨a,e,.inr hb⟩
theorem Afy {B : Nat} {Shun : Loc -> Prop} {D : Nat -> Prop} {n : Nat} {code : Nat -> ByteArray} {w v w' : World} (hB : B <= w.heap.size) (hr : Rel (veil D) w v) (hk : Dk B D w) (hhid : Gn (veil D) Shun) (hF : Found n code w w') :
  ∃ u,OnTo B (S1 Shun (w.heap.size + 2)) (D1 D (w.heap.size + 2)) w w' v u:=by
 have hsz:=hF.grown
 have hdk : Dk B (D1 D (w.heap.size + 2)) w':=fun b hb=>by
  rcases hb with hb | rfl
  ·rcases hk b hb with ⟨h1,c,e,hc⟩ | ⟨h1,o,h2,h3,h4⟩
   ·exact .inl ⟨h1,c,e,(hF.frame b (hr.low b hb)).trans hc⟩
   ·exact .inr ⟨h1,o,(hF.frame b (hr.low b hb)).trans h2,fun h=>h3 (J3.1 h),h4⟩
  ·have hlt : w.heap.size + 2 < w'.heap.size:=by omega
   obtain ⟨x,e,hx⟩:=hF.tidy (w.heap.size + 2) _ (by omega) (Array.getElem?_eq_getElem hlt)
   exact .inl ⟨by omega,x,e,by rw [Array.getElem?_eq_getElem hlt,hx]⟩
 obtain ⟨u,hu⟩ : ∃ u,Rel (veil (D1 D (w.heap.size + 2))) w' u:=by
  refine Q8 (fun b hb=>?_) (fun b o ho hv hf=>?_) (fun b c e f hb hc=>?_)
  ·rcases hb with hb | rfl
   ·have:=hr.low b hb; omega
   ·omega
  ·by_cases hlt : b < w.heap.size
   ·rw [hF.frame b hlt] at ho
    have hl:=hr.look b
    rw [ho] at hl
    generalize hx : v.heap[b]? = x at hl
    cases hl with
    | dark hz=>exact .inl hz
    | shut hz=>exact .inl hz
    | view hv'=>exact absurd hv' hv
    | same _=>exact absurd (J3.1 (hr.code b o hx)) hf
   ·obtain ⟨x,e,rfl⟩:=hF.tidy b o (by omega) ho
    exact absurd trivial hf
  ·rcases hdk b hb with ⟨_,c',e',hc'⟩ | ⟨_,o,h2,h3,_⟩
   ·rw [hc] at hc'
    cases hc'
    rfl
   ·rw [hc] at h2
    cases h2
    exact absurd trivial h3
 refine ⟨u,⟨hu,hdk,fun b hb=>hF.frame b (by omega),hF.os,by omega⟩,Aox hhid,⟨by rw [hr.size,hu.size]; omega,fun b o h1 h2=>?_⟩⟩
 have hb : b < w.heap.size:=by rw [<- hr.size]; exact (Array.getElem?_eq_some_iff.1 h1).1
 have hl:=hr.look b
 have hl':=hu.look b
 rw [hF.frame b hb] at hl'
 have e : (veil (D1 D (w.heap.size + 2))) b = (veil D) b:=by
  show (D b \/ b = w.heap.size + 2) = D b
  exact propext ⟨fun h=>h.elim id (fun h=>by omega),.inl⟩
 rw [e] at hl'
 exact X6 hl hl' (dk_z hk b) h1 h2
theorem Dz {Shun : Loc -> Prop} {B N : Nat} {S : Goroutine -> World -> Prop} {I : World -> Prop} {n : Nat} {g : Goroutine} {w : World} {m : Machine} {t : Trace} (h : GoW Tryz.prog true AtRel Ig S I n g) (hI : I w) (hst : Dv Tryz.prog Shun B N g w m t) :
  Runs Tryz.prog m t fun m' t'=>∃ g' w',S g' w' /\ (w'.os = w.os /\ w'.output = w.output) /\ Dv Tryz.prog Shun B N g' w' m' t' :=
 Po (D:=Ig) (β:=fun _=>B) (fun _ _=>rfl) (fun _ _ es h=>⟨Nat.le_refl _,fun e he=>by rw [h.1] at he; simp at he⟩) (fun _ _ _ h=>h.2) (h w hI) hst
theorem Eh {Shun : Loc -> Prop} {D : Nat -> Prop} {N : Nat} {S : Goroutine -> World -> Prop} {g : Goroutine} {w : World} {m : Machine} {t : Trace} (hh : Gn (veil D) Shun) (h : I7 Tryz.prog (Ho (veil D)) S g w) (hst : Dv Tryz.prog Shun w.heap.size N g w m t) :
  Runs Tryz.prog m t fun m' t'=>∃ g' w',S g' w' /\ Dv Tryz.prog Shun w'.heap.size N g' w' m' t' :=
 M9 (β:=fun w=>w.heap.size) (fun _ _=>rfl) (Acb hh) h ⟨w.drawn,rfl⟩ hst
theorem S9 {P : Program} {fn : Func} {R R' : Ending -> World -> Prop} (h : ∀ e w,R e w -> R' e w) {e : Exit} {a : Act} {w : World} (hb : bodyPost P fn R e a w) : bodyPost P fn R' e a w:=by
 cases e with
 | normal=>exact ⟨hb.1,let ⟨v,h1,h2⟩:=hb.2; ⟨v,h1,h _ _ h2⟩⟩
 | ret=>exact ⟨hb.1,let ⟨v,h1,h2⟩:=hb.2; ⟨v,h1,h _ _ h2⟩⟩
 | panic c=>exact ⟨hb.1,h _ _ hb.2⟩
 | outgrown=>exact h _ _ hb
 | _=>exact hb.elim
theorem Aa4 {B : Nat} {Shun : Loc -> Prop} {D : Nat -> Prop} {ds : List (Bt × SV)} {b cap o : Nat} {X : Array Value} {b₀ : Frame} {a₀ : Act} {ops₀ : Array Oper} {i₀ : Nat} {rest₀ : List Nat} {k₀ : List Item} {cs : List Frame} {w v : World} {m : Machine} {t : Trace}
  (hB : B <= w.heap.size) (hb0 : BaseB.b0 <= v.heap.size) (hrel : Rel (veil D) w v) (hdk : Dk B D w) (hhid : Gn (veil D) Shun) (hrow : v.heap[b]? = some (.cells X 52)) (hX0 : 0 < X.size) (hX : ds.length * 8 <= X.size) (h1 : X.all (·.oneCell') = true) (hI : InR v (some ⟨b,0,none⟩) ds) (hso : Er (ds.map (·.1))) (ho : o + 64 < 2147483647)
  (hb₀ : b₀.kind = .normal) (ha₀ : a₀.defers = []) (ho₀ : Gl Tryz.prog ops₀ = true) (hk₀ : ∀ x ∈ k₀,Dc Tryz.prog x = true)
  (hst : Dv Tryz.prog Shun w.heap.size (o + 1) (G ((base 35).at ⟨#[.slice (some ⟨b,0,none⟩) ds.length cap] ++ Array.replicate 45 ud,[]⟩ [.code (Tryz.f35.body.getD .skip)]) (b₀.at a₀ (.inRegion ops₀ (i₀ :: rest₀) :: k₀) :: cs)) w m t) :
  Runs Tryz.prog m t fun m' t'=>∃ w' v' pl L,OnTo B (S1 Shun (w.heap.size + 2)) (D1 D (w.heap.size + 2)) w w' v v' /\ MadeL v' pl ds L /\ v.heap.size <= pl /\
   Dv Tryz.prog (S1 Shun (w.heap.size + 2)) w'.heap.size (o + ds.length + 1) (G (after b₀ a₀ ops₀ i₀ rest₀ k₀ (pq pl 0)) cs) w' m' t':=by
 have hnum : ds.length <= 64:=by simpa using hso.1
 have hwrow:=Ak3 hrel hrow hX0
 have hnb : ¬ D b:=fun hd=>by
  rcases Agt hdk hrel b hd with ⟨_,e,he⟩ | ⟨_,he⟩
  ·rw [hrow] at he
   cases he
   simp at hX0
  ·rw [hrow] at he
   cases he
 obtain ⟨code,hcode⟩ : ∃ code : Nat -> ByteArray,code = fun i=>((ds[i]?).map (·.1.code)).getD ByteArray.empty:=⟨_,rfl⟩
 have hcat : ∀ i (hi : i < ds.length),code i = ds[i].1.code:=fun i hi=>by rw [hcode]; simp [hi]
 have hA : Ane Shun b ds.length X code w:=by
  refine ⟨hwrow,hX,h1,fun i hi=>?_,fun i hi=>?_,by omega,fun a ha hS=>?_,An6 hrel hhid⟩
  ·obtain ⟨b',o',e,hacc⟩:=hI.acc.resolve_left (fun h=>by rw [h] at hi; simp at hi)
   simp only [Option.some.injEq,Addr.mk.injEq,and_true] at e
   obtain ⟨rfl,rfl⟩:=e
   have:=(hacc i _ (List.getElem?_eq_getElem hi)) 6 _ rfl
   rw [Nat.zero_add,cell_of_row v b _ X 52 (0,0) hrow] at this
   rw [this,hcat i hi]
  ·rw [hcat i hi]
   have:=(hso.2.1 _ (List.mem_map_of_mem (List.getElem_mem hi))).2.2.2.2.1
   omega
  ·obtain ⟨a',e,hz⟩:=hhid _ hS
   cases e
   exact hnb (ha ▸ hz)
 -- up to the call
 refine (Dz (Amd (h0:=w.heap)) rfl hst).then fun m1 t1 h2=>?_
 obtain ⟨a1,w1,⟨rfl,hh1⟩,ho1,hst1⟩:=h2
 have hsz1 : w1.heap.size = w.heap.size:=by rw [hh1]
 have hA1 : Ane Shun b ds.length X code w1:=⟨by rw [hh1]; exact hA.row,hA.size,hA.one,hA.cod,hA.short,hA.n31,hA.sh,fun l hl=>by rw [hh1]; exact hA.low l hl⟩
 rw [<- hsz1] at hst1
 refine (Ry hA1 (by omega) hst1).then fun m2 t2 h3=>?_
 obtain ⟨w2,hF,hst2⟩:=h3
 have hact : (Act.put ⟨#[.slice (some ⟨b,0,none⟩) ds.length cap,ud,.pointer none,ud,ud,ud,ud,.slice (some ⟨b,0,none⟩) ds.length cap,ud,ud,ud,ud,ud,ud,ud,ud,ud,ud,ud,ud,ud,ud,ud,ud,ud,ud,ud,ud,ud,ud,ud,ud,ud,ud,ud,ud,ud,ud,ud,ud,ud,ud,ud,ud,ud,ud],[]⟩ ((Ack[1]?).bind (·.dst)) (sl w1.heap.size ds.length)) = ⟨#[.slice (some ⟨b,0,none⟩) ds.length cap,ud,.pointer none,ud,ud,ud,ud,.slice (some ⟨b,0,none⟩) ds.length cap,sl w1.heap.size ds.length,ud,ud,ud,ud,ud,ud,ud,ud,ud,ud,ud,ud,ud,ud,ud,ud,ud,ud,ud,ud,ud,ud,ud,ud,ud,ud,ud,ud,ud,ud,ud,ud,ud,ud,ud,ud,ud],[]⟩:=rfl
 rw [hact] at hst2
 clear hact
 have honF:=D5 (w':=w1) hdk hrel hhid hh1 ho1
 obtain ⟨u2,hon2⟩:=Afy (by rw [hsz1]; exact hB) honF.rel honF.dk hhid hF
 rw [hsz1] at hon2
 refine (Dz (Arc (h0:=w2.heap)) rfl hst2).then fun m3 t3 h4=>?_
 obtain ⟨a3,w3,⟨rfl,hh3⟩,ho3,hst3⟩:=h4
 have hsz3 : w3.heap.size = w2.heap.size:=by rw [hh3]
 have hon3:=(honF.trans hon2).trans (D5 (w':=w3) hon2.dk hon2.rel hon2.hid hh3 ho3)
 have hgsz:=hF.grown
 -- the lone walk of the rest
 have hwill:=Uh (D:=D1 D (w.heap.size + 2)) (f:=35) (fn:=Tryz.f35) (c:=c17) (b:=base 35) (b₀:=b₀) (a₀:=a₀) (ops₀:=ops₀) (i₀:=i₀) (rest₀:=rest₀) (k₀:=k₀) (cw:=cs) (w:=w3)
  (Ψ:=fun val v'=>∃ u,Rel (veil (D1 D (w.heap.size + 2))) w3 u /\ ∃ L mks,val = pq (u.heap.size + 2) 0 /\ N35 u v' ds mks ds.length L /\ ∀ i,i < ds.length -> ∃ bb,mks i = ⟨some ⟨bb,0,none⟩,(code i).size,(code i).size⟩ /\ u.heap[bb]? = ob (marks (code i) (code i).size 0 (zeros (code i).size)) 4)
  rfl TryQ.func35 rfl rfl ok17 hb₀ ha₀ ho₀ hk₀ ⟨_,hon3.rel⟩ (a:=⟨#[.slice (some ⟨b,0,none⟩) ds.length cap,ud,.pointer none,sl w1.heap.size ds.length,ud,ud,ud,.slice (some ⟨b,0,none⟩) ds.length cap,sl w1.heap.size ds.length,ud,ud,ud,ud,ud,ud,ud,ud,ud,ud,ud,ud,ud,ud,ud,ud,ud,ud,ud,ud,ud,ud,ud,ud,ud,ud,ud,ud,ud,ud,ud,ud,ud,ud,ud,ud,ud],[]⟩) (fun u hu=>?_)
 ·rw [hsz1] at hst3
  have hst4 : Dv Tryz.prog (S1 Shun (w.heap.size + 2)) w3.heap.size (o + ds.length + 1) (G ((base 35).at ⟨#[.slice (some ⟨b,0,none⟩) ds.length cap,ud,.pointer none,sl w1.heap.size ds.length,ud,ud,ud,.slice (some ⟨b,0,none⟩) ds.length cap,sl w1.heap.size ds.length,ud,ud,ud,ud,ud,ud,ud,ud,ud,ud,ud,ud,ud,ud,ud,ud,ud,ud,ud,ud,ud,ud,ud,ud,ud,ud,ud,ud,ud,ud,ud,ud,ud,ud,ud,ud,ud],[]⟩ [.code c17]) (b₀.at a₀ (.inRegion ops₀ (i₀ :: rest₀) :: k₀) :: cs)) w3 m3 t3:=by rw [hsz3,hsz1]; exact hst3
  refine (Eh hon3.hid hwill hst4).mono fun m5 t5 h5=>?_
  obtain ⟨g5,w5,⟨val,v5,rfl,hr5,hs5,u,hu,L,mks,rfl,hN,hM⟩,hst5⟩:=h5
  have hon5:=Fj hon3.dk hon3.rel hon3.hid (Nat.le_trans hB hon3.up) hu hr5 hs5 hN.below
  have htu:=hon3.tw.trans (Kl hon3.dk hon3.rel hu)
  refine ⟨w5,v5,u.heap.size + 2,L,hon3.trans hon5,⟨⟨_,_,hN.lg (hI.tw htu) hso (Nat.le_trans hb0 htu.size)⟩,hN.len,fun i d hd=>?_⟩,?_,hst5⟩
  ·have hi : i < ds.length:=by
    rcases Nat.lt_or_ge i ds.length with h | h
    ·exact h
    ·rw [List.getElem?_eq_none h] at hd; cases hd
   obtain ⟨pa,ms,d',hd',hL⟩:=hN.lst i hi
   rw [hd] at hd'
   cases hd'
   have hcd : code i = d.code:=by
    rw [hcat i hi]
    rw [List.getElem?_eq_getElem hi] at hd
    simp only [Option.map_some,Option.some.injEq] at hd
    rw [hd]
   obtain ⟨bb,hb1,hb2⟩:=hM i hi
   rw [hcd] at hb1 hb2
   exact ⟨pa,ms,bb,by rw [hL,hb1],(hN.below.block _ (Aa hb2)).trans hb2⟩
  ·have:=htu.size; omega
 ·have hIu : InR u (some ⟨b,0,none⟩) ds:=hI.tw (hon3.tw.trans (Kl hon3.dk hon3.rel hu))
  have hng : ¬ D1 D (w.heap.size + 2) w1.heap.size:=fun h=>by
   rcases h with h | h
   ·have:=hrel.low _ h; omega
   ·omega
  obtain ⟨cs3,hp1,hp2⟩:=hF.pay
  rw [<- hh3] at hp1
  have hpu:=Aac hu hp1 hng
  have hmk : ∀ i,i < ds.length -> ∃ bb,u.heap[bb]? = ob (marks (code i) (code i).size 0 (zeros (code i).size)) 4 /\ u.cell? ⟨w1.heap.size,i,none⟩ = some (.slice (some ⟨bb,0,none⟩) (code i).size (code i).size):=fun i hi=>by
   obtain ⟨bb,hlo,hbb,hc,hne⟩:=hF.cell i hi
   rw [cell_of_row w2 _ i cs3 132 (0,0) (by rw [<- hh3]; exact hp1)] at hc
   refine ⟨bb,Aac hu (by rw [hh3]; exact hbb) (fun h=>?_),(cell_of_row u _ i cs3 132 (0,0) hpu).trans hc⟩
   rcases h with h | h
   ·have:=hrel.low _ h; omega
   ·omega
  have hmk2 : ∃ mks : Nat -> SV,∀ i,i < ds.length -> (u.cell? ⟨w1.heap.size,i,none⟩ = some (.slice (mks i).a (mks i).n (mks i).c)) /\ ∃ bb,mks i = ⟨some ⟨bb,0,none⟩,(code i).size,(code i).size⟩ /\ u.heap[bb]? = ob (marks (code i) (code i).size 0 (zeros (code i).size)) 4:=by
   refine ⟨fun i=>if h : i < ds.length then ⟨some ⟨(hmk i h).choose,0,none⟩,(code i).size,(code i).size⟩ else ⟨none,0,0⟩,fun i hi=>?_⟩
   dsimp only
   rw [dif_pos hi]
   exact ⟨(hmk i hi).choose_spec.2,_,rfl,(hmk i hi).choose_spec.1⟩
  obtain ⟨mks,hmks⟩:=hmk2
  have hwp:=Arb ds (some ⟨b,0,none⟩) cap w1.heap.size ds.length mks u hIu (fun i hi=>(hmks i hi).1) (by rw [hu.size]; omega) hso
  refine Code.wp_mono ?_ hwp
  intro e a' v' hbp
  exact S9 (fun e v' ⟨val,h1,L,h2,h3⟩=>⟨val,h1,u,hu,L,mks,h2,h3,fun i hi=>(hmks i hi).2⟩) hbp
section
theorem Kh {D : Nat -> Prop} {f : FuncId} {fn : Func} {c : Code} {ops : Array Oper} {l : List Nat} {b b₀ : Frame} {a a₀ : Act} {ops₀ : Array Oper} {i₀ : Nat} {rest₀ : List Nat} {k₀ : List Item} {cw : List Frame} {w : World} {Ψ : Value -> World -> Prop} (hbf : b.fn = f) (hf : TryQ.prog.funcs[f]? = some fn) (hb : b.kind = .normal) (ha : a.defers = []) (ho : Gl Tryz.prog ops = true) (hc : Br Tryz.prog c = true)
  (hb₀ : b₀.kind = .normal) (ha₀ : a₀.defers = []) (ho₀ : Gl Tryz.prog ops₀ = true) (hk₀ : ∀ x ∈ k₀,Dc Tryz.prog x = true)
  (hex : ∃ v,Rel (veil D) w v) (hwp : ∀ v,Rel (veil D) w v -> wpOps TryQ.prog ops (fun e a' v'=>e = .normal /\ c.wp TryQ.prog (bodyPost TryQ.prog fn fun e v'=>∃ val,e = .returned val /\ Ψ val v') a' v') l a v) :
  I7 Tryz.prog (Ho (veil D)) (fun g w'=>∃ val v',g = G (after b₀ a₀ ops₀ i₀ rest₀ k₀ val) cw /\ Rel (veil D) w' v' /\ J7 w w' v' /\ Ψ val v') (G (b.at a (.inRegion ops l :: [.code c])) (b₀.at a₀ (.inRegion ops₀ (i₀ :: rest₀) :: k₀) :: cw)) w:=by
 have tc : ∀ a',a'.defers = [] -> ∀ l,TameF Tryz.prog (b₀.at a' (.inRegion ops₀ l :: k₀)):=fun a' ha' l=>Ga hb₀ ha' (fun x hx=>by rcases List.mem_cons.1 hx with rfl | hx; exact ho₀; exact hk₀ x hx)
 refine H7 ?_ (lift (fair D) (cw:=cw) (S:=fun fr frs v=>∃ val,fr = after b₀ a₀ ops₀ i₀ rest₀ k₀ val /\ frs = [] /\ Ψ val v) (fr:=b.at a (.inRegion ops l :: [.code c])) (frs:=[b₀.at a₀ (.inRegion ops₀ (i₀ :: rest₀) :: k₀)]) (w:=w)
  (Ga hb ha (fun x hx=>by rcases List.mem_cons.1 hx with rfl | hx; exact ho; rw [List.mem_singleton.1 hx]; exact hc)) (fun f hf=>by rw [List.mem_singleton.1 hf]; exact tc a₀ ha₀ _) hex (fun v hv=>?_))
 ·rintro g w' ⟨fr,frs,v,rfl,hr,hs,val,rfl,rfl,hΨ⟩
  exact ⟨val,v,rfl,hr,hs,hΨ⟩
 ·obtain ⟨e0,a1,v1,⟨rfl,hwp1⟩,hA0⟩:=wp_ops _ _ _ (hwp v hv) b [.code c] (b₀.at a₀ (.inRegion ops₀ (i₀ :: rest₀) :: k₀) :: [trap FQ.size])
  obtain ⟨e,a',v',hQ,hA⟩:=hwp1 b [] (b₀.at a₀ (.inRegion ops₀ (i₀ :: rest₀) :: k₀) :: [trap FQ.size])
  have hst : Steps TryQ.prog (lone (b.at a (.inRegion ops l :: [.code c])) (b₀.at a₀ (.inRegion ops₀ (i₀ :: rest₀) :: k₀) :: [trap FQ.size]) v) (lone (b.at a1 [.code c]) (b₀.at a₀ (.inRegion ops₀ (i₀ :: rest₀) :: k₀) :: [trap FQ.size]) v1):=hA0
  have fin : ∀ val,(b₀.at a₀ (.inRegion ops₀ (i₀ :: rest₀) :: k₀)).finish val = after b₀ a₀ ops₀ i₀ rest₀ k₀ val:=fun val=>Frame.finish_at _ _ _ _ _ _ _
  have key : ∀ val,(∃ todo,Steps TryQ.prog (lone (b.at a1 [.code c]) (b₀.at a₀ (.inRegion ops₀ (i₀ :: rest₀) :: k₀) :: [trap FQ.size]) v1) (lone { b.at a' todo with mode:=.returning } (b₀.at a₀ (.inRegion ops₀ (i₀ :: rest₀) :: k₀) :: [trap FQ.size]) v')) -> a'.defers = [] -> (results fn a'.tmps).run TryQ.prog v' = .ok val v' -> Ψ val v' ->
    ∃ n fr' frs' v'',runN (strip Tryz.prog FQ) n (lone (b.at a (.inRegion ops l :: [.code c])) ([b₀.at a₀ (.inRegion ops₀ (i₀ :: rest₀) :: k₀)] ++ [trap FQ.size]) v) = .next (lone fr' (frs' ++ [trap FQ.size]) v'') /\ TameF Tryz.prog fr' /\ ∃ val,fr' = after b₀ a₀ ops₀ i₀ rest₀ k₀ val /\ frs' = [] /\ Ψ val v'':=by
   rintro val ⟨todo,hs⟩ hd hr hΨ
   obtain ⟨n,hn⟩:=(hst.trans hs).trans (Oy (todo:=todo) hbf hb hf hd hr)
   rw [fin,TryQ.prog_eq] at hn
   exact ⟨n,_,[],v',hn,tc _ (Ac5 _ _ _ ha₀) _,val,rfl,rfl,hΨ⟩
  cases e with
  | normal =>
   obtain ⟨hd,x,hr,val,hv',hΨ⟩:=hQ
   cases hv'
   exact key _ ⟨[],hA.trans (.one step_end)⟩ hd hr hΨ
  | ret =>
   obtain ⟨hd,x,hr,val,hv',hΨ⟩:=hQ
   cases hv'
   exact key _ hA hd hr hΨ
  | panic ch=>obtain ⟨_,_,h,_⟩:=hQ; cases h
  | outgrown=>obtain ⟨_,h,_⟩:=hQ; cases h
  | _=>exact hQ.elim
noncomputable def c8 : Code:=match Tryz.f16.body with
 | some (.seq _ (.seq c _))=>c
 | _=>.skip
noncomputable def d8 : Code:=match Tryz.f16.body with
 | some (.seq _ (.seq _ c))=>c
 | _=>.skip
noncomputable def e8 : Code:=match d8 with
 | .seq _ c=>c
 | _=>.skip
noncomputable def ops8 : Array Oper:=match d8 with
 | .seq (.region _ o _) _=>o
 | _=>#[]
theorem okc8 : Br Tryz.prog c8 = true:=by kernel_rfl
theorem okd8 : Dc Tryz.prog (.code d8) = true:=by kernel_rfl
theorem oke8 : Br Tryz.prog e8 = true:=by kernel_rfl
theorem oko8 : Gl Tryz.prog ops8 = true:=by kernel_rfl
section
variable {h0 : Array Obj} {b n cap : Nat} {cs : List Frame}
theorem Apk : GoW Tryz.prog true AtRel Ig (fun g w=>g = G ((base 16).at ⟨#[.slice (some ⟨b,0,none⟩) n cap,ud,.pointer none,.nilIface,ud,ud,ud,ud,ud,ud,ud,ud,ud],[]⟩ [.code c8,.code d8]) cs /\ w.heap = h0) (fun w=>w.heap = h0) 30
   (G ((base 16).at ⟨#[.slice (some ⟨b,0,none⟩) n cap] ++ Array.replicate 12 ud,[]⟩ [.code (Tryz.f16.body.getD .skip)]) cs):=by
 have E:=K6 h0
 obtain ⟨bd,hbd⟩ : ∃ c,c = c8:=⟨_,rfl⟩
 have hbd':=hbd
 obtain ⟨be,hbe⟩ : ∃ c,c = d8:=⟨_,rfl⟩
 have hbe':=hbe
 simp only [c8,Tryz.f16] at hbd'
 simp only [d8,Tryz.f16] at hbe'
 rw [<- hbd,<- hbe]
 simp only [Tryz.f16,Option.getD_some]
 rw [<- hbd',<- hbe']
 walk_nrm
 repeat (first
  | refine Bj E ?_
  | refine Ah E ?_
  | refine Ay E ?_
  | (refine A9 E rfl rfl (by k_ne) (fun w hF K hK=>?_); go_simp; refine hK _ (by simp [go_sem, *]) ?_; clear hK K hF w; try w_num))
 exact Bp E (fun w hw=>⟨rfl,hw⟩)
theorem mid8 : GoW Tryz.prog true AtRel Ig (fun g w=>g = G ((base 35).at ⟨#[.slice (some ⟨b,0,none⟩) n cap] ++ Array.replicate 45 ud,[]⟩ [.code (Tryz.f35.body.getD .skip)]) ((base 16).at ⟨#[.slice (some ⟨b,0,none⟩) n cap,ud,.pointer none,.nilIface,.slice (some ⟨b,0,none⟩) n cap,.bool true,.bool false,ud,ud,.slice (some ⟨b,0,none⟩) n cap,ud,ud,ud],[]⟩ (.inRegion ops8 [1,2,3,4,5] :: [.code e8]) :: cs) /\ w.heap = h0) (fun w=>w.heap = h0) 30
   (G ((base 16).at ⟨#[.slice (some ⟨b,0,none⟩) n cap,ud,.pointer none,.nilIface,.slice (some ⟨b,0,none⟩) n cap,.bool true,.bool false,ud,ud,ud,ud,ud,ud],[]⟩ [.code d8]) cs):=by
 have E:=K6 h0
 obtain ⟨be,hbe⟩ : ∃ c,c = e8:=⟨_,rfl⟩
 have hbe':=hbe
 simp only [e8,d8,Tryz.f16] at hbe'
 obtain ⟨bc,hbc⟩ : ∃ c,c = Tryz.f35.body.getD .skip:=⟨_,rfl⟩
 rw [<- hbe,<- hbc]
 simp only [ops8,d8,Tryz.f16]
 rw [<- hbe']
 walk_nrm
 repeat (first
  | refine Bj E ?_
  | refine Bh E ?_
  | (refine A9 E rfl rfl (by k_ne) (fun w hF K hK=>?_); go_simp; refine hK _ (by simp [go_sem, *]) ?_; clear hK K hF w; try w_num))
 have hnm : (Tryz.f35.name == "runtime.NumGoroutine") = false:=by kernel_rfl
 have hbody : Tryz.f35.body = some bc:=by rw [hbc]; kernel_rfl
 refine Df E rfl rfl (by k_ne) rfl Tryz.func35 hnm hbody ?_
 rw [Tryz.ntmps35]
 clear hnm hbody hbc hbe hbe'
 walk_nrm
 exact Bp E (fun w hw=>⟨rfl,hw⟩)
end
end
end Go.Mark
