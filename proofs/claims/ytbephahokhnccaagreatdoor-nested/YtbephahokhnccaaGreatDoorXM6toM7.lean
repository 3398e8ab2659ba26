import Derived.Test.YtbephahokhnccaaGreatDoorXM0toM3
import Derived.Test.YtbephahokhnccaaGreatDoorM5
set_option linter.unusedSectionVars false
set_option maxRecDepth 100000
set_option maxHeartbeats 8000000
namespace Go.Mark
open Go.Conc Go.Walk Go.Phase Go.RowKit Go.Conc.Lib Go.ConcR.Gen Go.ConcN.Gen Go.Lift Go.Proofs
open Go.ConcN (WgLive Has RW DWs AtR0 PayAt)
open Go.ConcR (KK WgAt stA smA rd wr mk Payload)
section
variable {h0 : Array Obj} {cs : List Frame}
theorem sKn1  : GoW Tryz.prog true AtRel Ig (fun g w=>g = G ((base 12).at ⟨#[.bool false,ud,ud,ud,ud,ud,ud,ud,ud,ud,ud,ud,ud,ud,ud,ud,ud,ud,ud,ud,ud,ud,ud,ud,ud,ud,ud,ud,ud,ud,ud,ud,ud,ud,ud,ud,ud,ud,ud,ud] ++ #[ud,ud,ud,ud,ud,ud,ud,ud,ud,ud,ud,ud,ud,ud,ud,ud,ud,ud,ud,ud,ud,ud,ud,ud,ud,ud,ud,ud,ud,ud,ud,ud,ud,ud,ud,ud],[]⟩ (.inRegion ops12 ([0,1,2,3] ++ [4,5,6,7,8,9]) :: [.code c12])) cs /\ w.heap = h0) (fun w=>w.heap = h0) 40
   (G ((base 12).at ⟨Array.replicate 76 ud,[]⟩ [.code (Tryz.f12.body.getD .skip)]) cs):=by
 have E:=K6 h0
 obtain ⟨bd,hbd⟩ : ∃ c,c = c12:=⟨_,rfl⟩
 have hbd':=hbd
 simp only [c12,Tryz.f12] at hbd'
 rw [<- hbd]
 simp only [ops12,Tryz.f12,Option.getD_some]
 rw [<- hbd']
 clear hbd hbd'
 walk_nrm
 refine Bj E ?_
 refine Ar E ?_
 refine A9 E rfl rfl (by k_ne) (fun w hF K hK=>?_)
 go_simp
 refine hK _ (by simp [go_sem, *]) ?_
 clear hK K hF w
 refine Ah E ?_
 refine Bj E ?_
 refine E9 E ?_
 exact Bp E (fun w hw=>⟨rfl,hw⟩)
theorem sKn2 {x7 x8 x9 : Value} {b : Nat} : GoW Tryz.prog true AtRel Ig (fun g w=>g = G ((base 16).at ⟨#[.slice (some ⟨b,0,none⟩) 2 2] ++ Array.replicate 12 ud,[]⟩ [.code (Tryz.f16.body.getD .skip)]) (((base 12).at ⟨#[.bool false,ud,ud,ud,ud,ud,ud,x7,x8,x9,.slice (some ⟨b,0,none⟩) 2 2,ud,ud,ud,ud,ud,ud,ud,ud,ud,ud,ud,ud,ud,ud,ud,ud,ud,ud,ud,ud,ud,ud,ud,ud,ud,ud,ud,ud,ud] ++ #[ud,ud,ud,ud,ud,ud,ud,ud,ud,ud,ud,ud,ud,ud,ud,ud,ud,ud,ud,ud,ud,ud,ud,ud,ud,ud,ud,ud,ud,ud,ud,ud,ud,ud,ud,ud],[]⟩ (.inRegion ops12 [4,5,6,7,8,9] :: [.code c12])) :: cs) /\ w.heap = h0) (fun w=>w.heap = h0) 40
   (G ((base 12).at ⟨#[.bool false,ud,ud,ud,ud,ud,ud,x7,x8,x9,.slice (some ⟨b,0,none⟩) 2 2,ud,ud,ud,ud,ud,ud,ud,ud,ud,ud,ud,ud,ud,ud,ud,ud,ud,ud,ud,ud,ud,ud,ud,ud,ud,ud,ud,ud,ud] ++ #[ud,ud,ud,ud,ud,ud,ud,ud,ud,ud,ud,ud,ud,ud,ud,ud,ud,ud,ud,ud,ud,ud,ud,ud,ud,ud,ud,ud,ud,ud,ud,ud,ud,ud,ud,ud],[]⟩ (.inRegion ops12 [4,5,6,7,8,9] :: [.code c12])) cs):=by
 have E:=K6 h0
 obtain ⟨bd,hbd⟩ : ∃ c,c = c12:=⟨_,rfl⟩
 obtain ⟨bc,hbc⟩ : ∃ c,c = Tryz.f16.body.getD .skip:=⟨_,rfl⟩
 rw [<- hbd,<- hbc]
 simp only [ops12,Tryz.f12]
 walk_nrm
 have hnm : (Tryz.f16.name == "runtime.NumGoroutine") = false:=by kernel_rfl
 have hbody : Tryz.f16.body = some bc:=by rw [hbc]; kernel_rfl
 refine Df E rfl rfl (by k_ne) rfl Tryz.func16 hnm hbody ?_
 rw [Tryz.ntmps16]
 clear hnm hbody hbc hbd
 walk_nrm
 exact Bp E (fun w hw=>⟨rfl,hw⟩)
end
variable [BaseB]
theorem Te {P : Program} {ops : Array Oper} {Q : Exit -> Act -> World -> Prop} : ∀ (l : List Oper) (k : Nat),(∀ j,j < l.length -> l[j]? = ops[k + j]?) -> wpOps P ops Q (List.range' k l.length) = wpList P ops Q l
 | [],k,_=>by funext a w; simp [wpOps,wpList]
 | o :: l,k,h=>by
  have h0 : ops[k]? = some o:=by simpa using (h 0 (by simp)).symm
  have ih':=Te (P:=P) (ops:=ops) (Q:=Q) l (k + 1) (fun j hj=>by have:=h (j + 1) (by simpa using hj); simpa [Nat.add_assoc,Nat.add_comm 1 j] using this)
  funext a w
  simp only [List.length_cons,List.range'_succ,wpOps,h0,wpList,ih']
theorem Oi {P : Program} {ops : Array Oper} {Q : Exit -> Act -> World -> Prop} {a : Act} {w : World} (l : List Oper) (n : Nat) (hn : l.length = n) (hl : ∀ j,j < l.length -> l[j]? = ops[j]?) (h : wpList P ops Q l a w) : wpOps P ops Q (List.range' 0 n) a w:=by
 rw [<- hn,Te l 0 (fun j hj=>by rw [Nat.zero_add]; exact hl j hj)]
 exact h
def Px (d1 d2 : Bt) : Array Value:=(Am d1 ⟨none,0,0⟩ ++ Am d2 ⟨none,0,0⟩).toArray
theorem Ajk {v : World} {b : Nat} {d1 d2 : Bt} (h : v.heap[b]? = ob (Px d1 d2) 52) (h1 : d1.slots = []) (h2 : d2.slots = []) (hb1 : d1.bal < M) (hb2 : d2.bal < M) : InR v (some ⟨b,0,none⟩) [(d1,⟨none,0,0⟩),(d2,⟨none,0,0⟩)]:=by
 refine ⟨.inr ⟨b,0,rfl,fun i p hp=>?_⟩,fun p hp=>?_,fun p hp=>?_,fun p hp=>?_,fun p hp q hq=>?_,by simp⟩
 ·rw [Nat.zero_add]
  rcases i with _ | _ | i
  ·simp only [List.getElem?_cons_zero,Option.some.injEq] at hp
   subst hp
   intro j x hj
   rw [Nat.zero_mul,Nat.zero_add,Ad h j]
   unfold Px
   rw [List.getElem?_toArray,List.getElem?_append_left (List.getElem?_eq_some_iff.1 hj).1]
   exact hj
  ·simp only [Nat.zero_add,List.getElem?_cons_succ,List.getElem?_cons_zero,Option.some.injEq] at hp
   subst hp
   intro j x hj
   rw [Ad h]
   unfold Px
   rw [List.getElem?_toArray,List.getElem?_append_right (by simp [Am])]
   have e : (0 + 1) * 8 + j - (Am d1 ⟨none,0,0⟩).length = j:=by simp [Am]
   rw [e]
   exact hj
  ·simp at hp
 ·simp only [List.mem_cons,List.not_mem_nil,or_false] at hp
  rcases hp with rfl | rfl
  ·exact ⟨by simp [h1],.inl h1⟩
  ·exact ⟨by simp [h2],.inl h2⟩
 ·simp only [List.mem_cons,List.not_mem_nil,or_false] at hp
  rcases hp with rfl | rfl
  ·exact hb1
  ·exact hb2
 ·simp only [List.mem_cons,List.not_mem_nil,or_false] at hp
  rcases hp with rfl | rfl
  ·simp [h1]
  ·simp [h2]
 ·simp only [List.mem_cons,List.not_mem_nil,or_false] at hp
  rcases hp with rfl | rfl
  ·rw [h1] at hq; cases hq
  ·rw [h2] at hq; cases hq
section
attribute [local go_sem] wd
abbrev Z6 : Bt:=⟨1,30000,0,⟨#[]⟩,[]⟩
abbrev Z5 : Bt:=⟨2,0,0,⟨#[]⟩,[]⟩
theorem Aq1 (u : World) (Φ : Act -> World -> Prop) (hΦ : ∀ x7 x8 x9 b v',Below u.heap.size u v' -> u.heap.size <= b -> v'.heap[b]? = ob (Px Z6 Z5) 52 -> Φ ⟨#[.bool false,ud,ud,ud,ud,ud,ud,x7,x8,x9,.slice (some ⟨b,0,none⟩) 2 2,ud,ud,ud,ud,ud,ud,ud,ud,ud,ud,ud,ud,ud,ud,ud,ud,ud,ud,ud,ud,ud,ud,ud,ud,ud,ud,ud,ud,ud] ++ #[ud,ud,ud,ud,ud,ud,ud,ud,ud,ud,ud,ud,ud,ud,ud,ud,ud,ud,ud,ud,ud,ud,ud,ud,ud,ud,ud,ud,ud,ud,ud,ud,ud,ud,ud,ud],[]⟩ v') :
  wpOps TryQ.prog ops12 (fun e a' v'=>e = .normal /\ a'.defers = [] /\ Φ a' v') [0,1,2,3] ⟨#[.bool false,ud,ud,ud,ud,ud,ud,ud,ud,ud,ud,ud,ud,ud,ud,ud,ud,ud,ud,ud,ud,ud,ud,ud,ud,ud,ud,ud,ud,ud,ud,ud,ud,ud,ud,ud,ud,ud,ud,ud] ++ #[ud,ud,ud,ud,ud,ud,ud,ud,ud,ud,ud,ud,ud,ud,ud,ud,ud,ud,ud,ud,ud,ud,ud,ud,ud,ud,ud,ud,ud,ud,ud,ud,ud,ud,ud,ud],[]⟩ u:=by
 simp only [List.append_toArray,List.cons_append,List.nil_append] at hΦ ⊢
 obtain ⟨lo,hlo⟩ : ∃ l,l = ops12.toList.take 4:=⟨_,rfl⟩
 have hlo':=hlo
 simp only [ops12,Tryz.f12,List.take_succ_cons,List.take_zero] at hlo'
 refine Oi lo 4 (by rw [hlo']; rfl) (fun j hj=>by rw [hlo,List.getElem?_take_of_lt (by rw [hlo'] at hj; simpa using hj)]; simp) ?_
 rw [hlo']
 dsimp only [ops12,Tryz.f12]
 clear hlo' hlo lo
 have hof : Calls TryQ.prog 21 #[.int .i64 30000] u _:=Kj 30000 (by decide) u
 have hΦs : Shut _:=hΦ
 clear hΦ
 go_wp2_with fail
 refine hof.mono ?_
 rintro e w1 ⟨rfl,hb1⟩
 clear hof
 unfold wd
 go_wp2_with fail
 have e : Px Z6 Z5 = #[.int .i64 1,.int .u64 (lim 30000 0),.int .u64 (lim 30000 1),.int .u64 (lim 30000 2),.int .u64 (lim 30000 3),.int .i64 0,.string ⟨#[]⟩,.slice none 0 0,.int .i64 2,.int .u64 0,.int .u64 0,.int .u64 0,.int .u64 0,.int .i64 0,.string ⟨#[]⟩,.slice none 0 0]:=by simp [Px,Am,Agr]
 exact hΦs.out _ _ _ w1.heap.size _ (hb1.trans ((Below.refl _ _).alloc (Nat.le_refl _) _ |>.mono hb1.size)) hb1.size (by rw [e]; exact Al w1 _)
end
theorem X0 {B : Nat} {D : Nat -> Prop} {w w' u v' : World} (hk : Dk B D w) (hu : Rel (veil D) w u) (hr : Rel (veil D) w' v') (hs : J7 w w' v') (hB : B <= w.heap.size) (hb : Below B u v') (hz : ∀ (b : Nat) (e : TypeId),u.heap[b]? = some (.cells #[] e) -> ∃ c f,v'.heap[b]? = some (.cells c e f)) : On0 B D w w' v':=by
 have kw : ∀ b,b < B -> w'.heap[b]? = w.heap[b]?:=fun b hlt=>by
  have hnd : ∀ o,v'.heap[b]? = some o -> ¬ Off o -> ¬ D b:=fun o hv hoff hd=>by
   rcases Agt hk hu b hd with ⟨h1,_⟩ | ⟨_,h1⟩
   ·omega
   ·rw [<- hb.block b hlt,hv] at h1
    cases h1
    exact hoff (.inr rfl)
  cases hv : v'.heap[b]? with
  | none =>
   have:=Array.getElem?_eq_none_iff.1 hv
   have:=hu.size
   have:=hb.size
   omega
  | some o =>
   by_cases hoff : Off o
   ·exact hs b o hv hoff (by omega)
   ·have hn:=hnd o hv hoff
    have hl:=hr.look b
    have hl':=hu.look b
    rw [<- hb.block b hlt] at hl'
    rw [hv] at hl hl'
    generalize w'.heap[b]? = x at hl ⊢
    generalize w.heap[b]? = y at hl' ⊢
    cases hl with
    | dark hd=>exact absurd hd hn
    | shut hd=>exact absurd hd hn
    | view _ hbl=>exact absurd (Or.inl (by cases o <;> first | exact hbl.elim | trivial)) hoff
    | same _ =>
     cases hl' with
     | dark hd=>exact absurd hd hn
     | shut hd=>exact absurd hd hn
     | view _ hbl=>exact absurd (Or.inl (by cases o <;> first | exact hbl.elim | trivial)) hoff
     | same _=>rfl
 refine ⟨hr,fun b hd=>?_,kw,⟨by rw [<- hr.os,hb.os,hu.os],by rw [<- hr.out,hb.output,hu.out]⟩,by rw [<- hr.size,<- hu.size]; exact hb.size⟩
 rcases hk b hd with ⟨h1,c,e,hc⟩ | ⟨h1,o,h2,h3,h4⟩
 ·rcases Agt hk hu b hd with ⟨_,e',he⟩ | ⟨h2,_⟩
  ·refine .inl ⟨h1,?_⟩
   obtain ⟨c',f',hv⟩:=hz b e' he
   have hl:=hr.look b
   rw [hv] at hl
   generalize w'.heap[b]? = x at hl
   cases hl with
   | dark _=>exact ⟨_,_,rfl⟩
   | view _ hbl=>exact hbl.elim
   | same hs=>exact absurd trivial ((hs _ rfl).2 hd)
  ·omega
 ·exact .inr ⟨h1,o,(kw b h1).trans h2,h3,h4⟩
theorem Aks : Er ([(Z6,(⟨none,0,0⟩ : SV)),(Z5,⟨none,0,0⟩)].map (·.1)):=by
 refine ⟨by simp,fun d hd=>?_,by simp,by simp [M]⟩
 simp only [List.map_cons,List.map_nil,List.mem_cons,List.not_mem_nil,or_false] at hd
 rcases hd with rfl | rfl <;> simp [Es,ByteArray.size]
theorem Ain {W : World} {pl : Nat} {d1 d2 : Bt} {s1 s2 : SV} {L : AL} (h : MadeL W pl [(d1,s1),(d2,s2)] L) :
  ∃ m dmb p1 ms1 b1 p2 ms2 b2,L = [Gz d1 ⟨some ⟨b1,0,none⟩,d1.code.size,d1.code.size⟩ p1 ms1,Gz d2 ⟨some ⟨b2,0,none⟩,d2.code.size,d2.code.size⟩ p2 ms2] /\ LG W pl m ⟨dmb,[]⟩ 0 L [] /\ p1 ≠ p2 /\ W.heap[b2]? = ob (marks d2.code d2.code.size 0 (zeros d2.code.size)) 4:=by
 obtain ⟨⟨m,dmb,hL⟩,hlen,hlst⟩:=h
 obtain ⟨p1,ms1,b1,e1,_⟩:=hlst 0 d1 rfl
 obtain ⟨p2,ms2,b2,e2,hb2⟩:=hlst 1 d2 rfl
 match L,hlen with
 | [q1,q2],_ =>
  simp only [List.getElem?_cons_zero,List.getElem?_cons_succ,Option.some.injEq] at e1 e2
  subst e1 e2
  refine ⟨m,dmb,p1,ms1,b1,p2,ms2,b2,rfl,hL,fun e=>?_,hb2⟩
  have:=hL.ndb
  simp [Gz,e] at this
def Am6 : Array Value:=#[.bool false,ud,ud,ud,ud,ud,ud,ud,ud,ud,ud,ud,ud,ud,ud,ud,ud,ud,ud,ud,ud,ud,ud,ud,ud,ud,ud,ud,ud,ud,ud,ud,ud,ud,ud,ud,ud,ud,ud,ud] ++ #[ud,ud,ud,ud,ud,ud,ud,ud,ud,ud,ud,ud,ud,ud,ud,ud,ud,ud,ud,ud,ud,ud,ud,ud,ud,ud,ud,ud,ud,ud,ud,ud,ud,ud,ud,ud]
def Adw (x7 x8 x9 : Value) (b : Nat) : Array Value:=#[.bool false,ud,ud,ud,ud,ud,ud,x7,x8,x9,.slice (some ⟨b,0,none⟩) 2 2,ud,ud,ud,ud,ud,ud,ud,ud,ud,ud,ud,ud,ud,ud,ud,ud,ud,ud,ud,ud,ud,ud,ud,ud,ud,ud,ud,ud,ud] ++ #[ud,ud,ud,ud,ud,ud,ud,ud,ud,ud,ud,ud,ud,ud,ud,ud,ud,ud,ud,ud,ud,ud,ud,ud,ud,ud,ud,ud,ud,ud,ud,ud,ud,ud,ud,ud]
def Am5 (x7 x8 x9 : Value) (b pw : Nat) : Array Value:=#[.bool false,ud,ud,ud,ud,ud,ud,x7,x8,x9,.slice (some ⟨b,0,none⟩) 2 2,.tuple #[pq pw 0,.nilIface],ud,ud,ud,ud,ud,ud,ud,ud,ud,ud,ud,ud,ud,ud,ud,ud,ud,ud,ud,ud,ud,ud,ud,ud,ud,ud,ud,ud] ++ #[ud,ud,ud,ud,ud,ud,ud,ud,ud,ud,ud,ud,ud,ud,ud,ud,ud,ud,ud,ud,ud,ud,ud,ud,ud,ud,ud,ud,ud,ud,ud,ud,ud,ud,ud,ud]
section
variable {h0 : Array Obj} {cs : List Frame}
theorem Aqw : GoW Tryz.prog true AtRel Ig (fun g w=>g = G ((base 12).at ⟨Am6,[]⟩ (.inRegion ops12 ([0,1,2,3] ++ [4,5,6,7,8,9]) :: [.code c12])) cs /\ w.heap = h0) (fun w=>w.heap = h0) 40
   (G ((base 12).at ⟨Array.replicate 76 ud,[]⟩ [.code (Tryz.f12.body.getD .skip)]) cs):=sKn1
theorem Aqv {x7 x8 x9 : Value} {b : Nat} : GoW Tryz.prog true AtRel Ig (fun g w=>g = G ((base 16).at ⟨#[.slice (some ⟨b,0,none⟩) 2 2] ++ Array.replicate 12 ud,[]⟩ [.code (Tryz.f16.body.getD .skip)]) (((base 12).at ⟨Adw x7 x8 x9 b,[]⟩ (.inRegion ops12 [4,5,6,7,8,9] :: [.code c12])) :: cs) /\ w.heap = h0) (fun w=>w.heap = h0) 40
   (G ((base 12).at ⟨Adw x7 x8 x9 b,[]⟩ (.inRegion ops12 [4,5,6,7,8,9] :: [.code c12])) cs):=sKn2
end
theorem An1 (u : World) (Φ : Act -> World -> Prop) (hΦ : ∀ x7 x8 x9 b v',Below u.heap.size u v' -> u.heap.size <= b -> v'.heap[b]? = ob (Px Z6 Z5) 52 -> Φ ⟨Adw x7 x8 x9 b,[]⟩ v') :
  wpOps TryQ.prog ops12 (fun e a' v'=>e = .normal /\ a'.defers = [] /\ Φ a' v') [0,1,2,3] ⟨Am6,[]⟩ u:=Aq1 u Φ hΦ
theorem Ar7 {x7 x8 x9 : Value} {b pw : Nat} : after (base 12) ⟨Adw x7 x8 x9 b,[]⟩ ops12 4 [5,6,7,8,9] [.code c12] (.tuple #[pq pw 0,.nilIface]) = (base 12).at ⟨Am5 x7 x8 x9 b pw,[]⟩ (.inRegion ops12 [5,6,7,8,9] :: [.code c12]):=by kernel_rfl
theorem Ak2 {u : World} {l m dmb p1 p2 pw b : Nat} {cr : Int} (x7 x8 x9 : Value) (h : Kn l m ⟨dmb,[]⟩ cr p1 p2 30000 0 0 10 u) (hne : p1 ≠ p2) (hpo : u.heap[pw]? = ob #[pq l 0] 87) (hb0 : BaseB.b0 <= u.heap.size) (Ψ : Value -> World -> Prop) (hΨ : ∀ v',Bz u v' -> Ψ (.bool true) v') :
  wpOps TryQ.prog ops12 (fun e a' v'=>e = .normal /\ c12.wp TryQ.prog (bodyPost TryQ.prog Tryz.f12 fun e v'=>∃ val,e = .returned val /\ Ψ val v') a' v') [5,6,7,8,9] ⟨Am5 x7 x8 x9 b pw,[]⟩ u:=Anx x7 x8 x9 _ h hne hpo hb0 Ψ hΨ
theorem Alh {W : World} {pl : Nat} {L : AL} (h : MadeL W pl [(Z6,(⟨none,0,0⟩ : SV)),(Z5,⟨none,0,0⟩)] L) : ∃ m dmb p1 p2,Kn pl m ⟨dmb,[]⟩ 0 p1 p2 30000 0 0 10 W /\ p1 ≠ p2:=by
 obtain ⟨m,dmb,p1,ms1,b1,p2,ms2,b2,rfl,hL,hne,_⟩:=Ain h
 exact ⟨m,dmb,p1,p2,⟨[],_,_,hL,⟨rfl,rfl,rfl,rfl⟩,⟨rfl,rfl,rfl,rfl⟩,by decide⟩,hne⟩
theorem Ab3 {Shun : Loc -> Prop} {D : Nat -> Prop} {o : Nat} {T12 : Array Value} (hT : T12 = Array.replicate 76 ud) {b₀ : Frame} {a₀ : Act} {ops₀ : Array Oper} {i₀ : Nat} {rest₀ : List Nat} {k₀ : List Item} {cs : List Frame} {w v : World} {m : Machine} {t : Trace}
  (hB : BaseB.b0 <= w.heap.size) (hrel : Rel (veil D) w v) (hdk : Dk BaseB.b0 D w) (hhid : Gn (veil D) Shun) (ho : o + 64 < 2147483647)
  (hb₀ : b₀.kind = .normal) (ha₀ : a₀.defers = []) (ho₀ : Gl Tryz.prog ops₀ = true) (hk₀ : ∀ x ∈ k₀,Dc Tryz.prog x = true)
  (hst : Dv Tryz.prog Shun w.heap.size (o + 1) (G ((base 12).at ⟨T12,[]⟩ [.code (Tryz.f12.body.getD .skip)]) (b₀.at a₀ (.inRegion ops₀ (i₀ :: rest₀) :: k₀) :: cs)) w m t) :
  Runs Tryz.prog m t fun m' t'=>∃ w' v' Shun' D' o',On0 BaseB.b0 D' w w' v' /\ Gn (veil D') Shun' /\ o' <= o + 64 /\
   Dv Tryz.prog Shun' w'.heap.size (o' + 1) (G (after b₀ a₀ ops₀ i₀ rest₀ k₀ (.bool true)) cs) w' m' t':=by
 subst hT
 refine (Dz (Aqw (h0:=w.heap)) rfl hst).then fun m1 t1 h1=>?_
 clear hst
 obtain ⟨g1,w1,⟨rfl,hh1⟩,ho1,hst1⟩:=h1
 have hon1:=D5 (w':=w1) hdk hrel hhid hh1 ho1
 have hsz1 : w1.heap.size = w.heap.size:=by rw [hh1]
 rw [<- hsz1] at hst1
 have hwill1:=Yb (D:=D) (ops:=ops12) (l:=[0,1,2,3]) (l2:=[4,5,6,7,8,9]) (b:=base 12) (k:=[.code c12]) (cw:=b₀.at a₀ (.inRegion ops₀ (i₀ :: rest₀) :: k₀) :: cs) (w:=w1) (a:=⟨Am6,[]⟩)
  (Φ:=fun a' v'=>∃ u x7 x8 x9 b,Rel (veil D) w1 u /\ a' = ⟨Adw x7 x8 x9 b,[]⟩ /\ Below u.heap.size u v' /\ v'.heap[b]? = ob (Px Z6 Z5) 52) rfl rfl Agz (fun x hx=>by rw [List.mem_singleton.1 hx]; exact Ag0) ⟨_,hon1.rel⟩
  (fun u hu=>An1 u _ (fun x7 x8 x9 b v' hb _ hrow=>⟨u,x7,x8,x9,b,hu,rfl,hb,hrow⟩))
 refine (Eh hhid hwill1 hst1).then fun m2 t2 h2=>?_
 clear hst1 hwill1
 obtain ⟨g2,w2,⟨a2,v2,rfl,hr2,hs2,_,u1,x7,x8,x9,b,hu1,rfl,hb1,hrow⟩,hst2⟩:=h2
 have hon2:=hon1.trans (Fj hon1.dk hon1.rel hhid (Nat.le_trans hB hon1.up) hu1 hr2 hs2 hb1)
 refine (Dz (Aqv (h0:=w2.heap)) rfl hst2).then fun m3 t3 h3=>?_
 clear hst2
 obtain ⟨g3,w3,⟨rfl,hh3⟩,ho3,hst3⟩:=h3
 have hon3:=hon2.trans (D5 (w':=w3) hon2.dk hon2.rel hhid hh3 ho3)
 have hsz3 : w3.heap.size = w2.heap.size:=by rw [hh3]
 rw [<- hsz3] at hst3
 have hB3 : BaseB.b0 <= v2.heap.size:=by rw [hon3.rel.size]; exact Nat.le_trans hB hon3.up
 refine (Tu (ds:=[(Z6,⟨none,0,0⟩),(Z5,⟨none,0,0⟩)]) (cap:=2) (o:=o) (b₀:=base 12) (a₀:=⟨Adw x7 x8 x9 b,[]⟩) (ops₀:=ops12) (i₀:=4) (rest₀:=[5,6,7,8,9]) (k₀:=[.code c12]) (Nat.le_trans hB hon3.up) hB3 hon3.rel hon3.dk hon3.hid hrow (by simp [Px,Am]) (by simp [Px,Am]) (by simp [Px,Am,Value.oneCell']) (Ajk hrow rfl rfl (by decide) (by decide)) ho rfl rfl Agz (fun x hx=>by rw [List.mem_singleton.1 hx]; exact Ag0) hst3).then fun m4 t4 h4=>?_
 clear hst3
 obtain ⟨w4,v4,Shun4,D4,o4,val4,hon4',hres4,ho4,hst4⟩:=h4
 have hon4:=hon3.trans hon4'
 rcases hres4 with ⟨_,pw,pl,L,rfl,hpw,hmade,_,_⟩ | ⟨hno,_⟩
 rotate_left
 ·exact absurd Aks hno
 rw [Ar7] at hst4
 have hwill2:=Kh (D:=D4) (f:=12) (fn:=Tryz.f12) (c:=c12) (ops:=ops12) (l:=[5,6,7,8,9]) (b:=base 12) (b₀:=b₀) (a₀:=a₀) (ops₀:=ops₀) (i₀:=i₀) (rest₀:=rest₀) (k₀:=k₀) (cw:=cs) (w:=w4) (a:=⟨Am5 x7 x8 x9 b pw,[]⟩)
  (Ψ:=fun val v'=>val = .bool true /\ ∃ u,Rel (veil D4) w4 u /\ Bz u v')
  rfl TryQ.func12 rfl rfl Agz Ag0 hb₀ ha₀ ho₀ hk₀ ⟨_,hon4.rel⟩ (fun u hu=>by
   have htu:=Kl hon4.dk hon4.rel hu
   obtain ⟨mm,dmb,p1,p2,hkn,hne⟩:=Alh (hmade.tw htu)
   exact Ak2 x7 x8 x9 hkn hne (htu.obj _ _ hpw (.inl trivial)) (by rw [hu.size]; exact Nat.le_trans hB hon4.up) _ (fun v' hz=>⟨rfl,u,hu,hz⟩))
 refine (Eh hon4.hid hwill2 hst4).mono fun m5 t5 h5=>?_
 clear hst4 hwill2
 obtain ⟨g5,w5,⟨val,v5,rfl,hr5,hs5,rfl,u,hu,hz⟩,hst5⟩:=h5
 exact ⟨w5,v5,Shun4,D4,o4,hon4.toOn0.trans (X0 hon4.dk hu hr5 hs5 (Nat.le_trans hB hon4.up) hz.toBelow hz.kz),hon4.hid,ho4,hst5⟩
end Go.Mark
namespace Go.Mark
open Go.RowKit Go.Proofs Go.Lift
variable [BaseB]
noncomputable def nd8 : Code:=tl8 8 nc8
noncomputable def nops84 : Array Oper:=match nd8 with
 | .seq (.region _ o _) _=>o
 | _=>#[]
noncomputable def nr8 : Code:=tl8 1 nd8
def O6 (d1 d2 d3 : Bt) : Array Value:=(Am d1 ⟨none,0,0⟩ ++ (Am d2 ⟨none,0,0⟩ ++ Am d3 ⟨none,0,0⟩)).toArray
theorem Ajj {v : World} {b : Nat} {d1 d2 d3 : Bt} (h : v.heap[b]? = ob (O6 d1 d2 d3) 52) (h1 : d1.slots = []) (h2 : d2.slots = []) (h3 : d3.slots = []) (hb1 : d1.bal < M) (hb2 : d2.bal < M) (hb3 : d3.bal < M) : InR v (some ⟨b,0,none⟩) [(d1,⟨none,0,0⟩),(d2,⟨none,0,0⟩),(d3,⟨none,0,0⟩)]:=by
 have hm : ∀ p ∈ [(d1,(⟨none,0,0⟩ : SV)),(d2,⟨none,0,0⟩),(d3,⟨none,0,0⟩)],p.1.slots = [] /\ p.1.bal < M /\ p.2 = ⟨none,0,0⟩:=fun p hp=>by
  simp only [List.mem_cons,List.not_mem_nil,or_false] at hp
  rcases hp with rfl | rfl | rfl
  ·exact ⟨h1,hb1,rfl⟩
  ·exact ⟨h2,hb2,rfl⟩
  ·exact ⟨h3,hb3,rfl⟩
 refine ⟨.inr ⟨b,0,rfl,fun i p hp=>?_⟩,fun p hp=>⟨by simp [(hm p hp).1,(hm p hp).2.2],.inl (hm p hp).1⟩,fun p hp=>(hm p hp).2.1,fun p hp=>by simp [(hm p hp).1],fun p hp q hq=>(by rw [(hm p hp).1] at hq; cases hq),by simp⟩
 rw [Nat.zero_add]
 have hc : ∀ j,v.cell? ⟨b,j,none⟩ = (O6 d1 d2 d3)[j]?:=fun j=>Ad h j
 rcases i with _ | _ | _ | i
 ·simp only [List.getElem?_cons_zero,Option.some.injEq] at hp
  subst hp
  intro j x hj
  rw [Nat.zero_mul,Nat.zero_add,hc]
  unfold O6
  rw [List.getElem?_toArray,List.getElem?_append_left (List.getElem?_eq_some_iff.1 hj).1]
  exact hj
 ·simp only [Nat.zero_add,List.getElem?_cons_succ,List.getElem?_cons_zero,Option.some.injEq] at hp
  subst hp
  intro j x hj
  rw [hc]
  unfold O6
  have hl:=(List.getElem?_eq_some_iff.1 hj).1
  rw [List.getElem?_toArray,List.getElem?_append_right (by simp [Am])]
  have e : (0 + 1) * 8 + j - (Am d1 ⟨none,0,0⟩).length = j:=by simp [Am]
  rw [e,List.getElem?_append_left hl]
  exact hj
 ·simp only [Nat.zero_add,List.getElem?_cons_succ,List.getElem?_cons_zero,Option.some.injEq] at hp
  subst hp
  intro j x hj
  rw [hc]
  unfold O6
  rw [List.getElem?_toArray,List.getElem?_append_right (by simp [Am]; omega),List.getElem?_append_right (by simp [Am]; omega)]
  have e : (0 + 1 + 1) * 8 + j - (Am d1 ⟨none,0,0⟩).length - (Am d2 ⟨none,0,0⟩).length = j:=by simp [Am]; omega
  rw [e]
  exact hj
 ·simp at hp
abbrev d8a : Bt:=⟨1,1000000,0,⟨#[]⟩,[]⟩
abbrev d8b (st : ByteArray) : Bt:=⟨2,50,0,st,[]⟩
abbrev d8c (ct : ByteArray) : Bt:=⟨3,0,0,ct,[]⟩
section
attribute [local go_sem] wd
theorem Aq0 {T : Array Value} {bad lent : Bool} {g v : Nat} {ct st : ByteArray} (hT : F8 T bad lent g v) (h13 : T[13]? = some (.string ct)) (h14 : T[14]? = some (.string st)) (u : World) (Φ : Act -> World -> Prop) (hΦ : ∀ T' b v',Below u.heap.size u v' -> u.heap.size <= b -> v'.heap[b]? = ob (O6 d8a (d8b st) (d8c ct)) 52 -> F8 T' bad lent g v -> T'[83]? = some (.slice (some ⟨b,0,none⟩) 3 3) -> Φ ⟨T',[]⟩ v') :
  wpOps TryQ.prog nops84 (fun e a' v'=>e = .normal /\ a'.defers = [] /\ Φ a' v') [0,1,2,3,4,5,6,7] ⟨T,[]⟩ u:=by
 have hΦs : Shut _:=hΦ
 clear hΦ
 obtain ⟨x,rfl⟩:=U5 T hT.sz
 have e2 : x 2 = _:=Option.some.inj hT.t2
 have e3 : x 3 = _:=Option.some.inj hT.t3
 have e8 : x 8 = _:=Option.some.inj hT.t8
 have e9 : x 9 = _:=Option.some.inj hT.t9
 have e10 : x 10 = _:=Option.some.inj hT.t10
 have e11 : x 11 = _:=Option.some.inj hT.t11
 have e13 : x 13 = _:=Option.some.inj h13
 have e14 : x 14 = _:=Option.some.inj h14
 clear hT h13 h14
 rw [e2,e3,e8,e9,e10,e11,e13,e14]
 clear e2 e3 e8 e9 e10 e11 e13 e14
 obtain ⟨lo,hlo⟩ : ∃ l,l = nops84.toList.take 8:=⟨_,rfl⟩
 have hlo':=hlo
 simp only [nops84,nd8,tl8,nc8,Tryz.f8,List.take_succ_cons,List.take_zero] at hlo'
 refine Oi lo 8 (by rw [hlo']; rfl) (fun j hj=>by rw [hlo,List.getElem?_take_of_lt (by rw [hlo'] at hj; simpa using hj)]; simp) ?_
 rw [hlo']
 dsimp only [nops84,nd8,tl8,nc8,Tryz.f8]
 clear hlo' hlo lo
 have hof : Calls TryQ.prog 21 #[.int .i64 1000000] u _:=Kj 1000000 (by decide) u
 go_wp2_with fail
 refine hof.mono ?_
 rintro e w1 ⟨rfl,hb1⟩
 clear hof
 have hof : Calls TryQ.prog 21 #[.int .i64 50] w1 _:=Kj 50 (by decide) w1
 unfold wd
 go_wp2_with fail
 refine hof.mono ?_
 rintro e w2 ⟨rfl,hb2⟩
 clear hof
 unfold wd
 go_wp2_with fail
 have hbA:=hb1.trans (hb2.mono hb1.size)
 have e : O6 d8a (d8b st) (d8c ct) = #[.int .i64 1,.int .u64 (lim 1000000 0),.int .u64 (lim 1000000 1),.int .u64 (lim 1000000 2),.int .u64 (lim 1000000 3),.int .i64 0,.string ⟨#[]⟩,.slice none 0 0,.int .i64 2,.int .u64 (lim 50 0),.int .u64 (lim 50 1),.int .u64 (lim 50 2),.int .u64 (lim 50 3),.int .i64 0,.string st,.slice none 0 0,.int .i64 3,.int .u64 0,.int .u64 0,.int .u64 0,.int .u64 0,.int .i64 0,.string ct,.slice none 0 0]:=by simp [O6,Am,Agr]
 exact hΦs.out _ w2.heap.size _ (hbA.trans ((Below.refl _ _).alloc (Nat.le_refl _) _ |>.mono hbA.size)) hbA.size (by rw [e]; exact Al w2 _) ⟨rfl,rfl,rfl,rfl,rfl,rfl,rfl⟩ rfl
end
end Go.Mark
