import Derived.Test.YtbephahokhnccaaGreatDoorXH1toH4
set_option linter.unusedSectionVars false
set_option maxRecDepth 100000
set_option maxHeartbeats 4000000
namespace Go.Mark
open Go.Conc Go.Walk Go.Phase Go.RowKit Go.Conc.Lib Go.ConcR.Gen Go.ConcN.Gen Go.Lift Go.Proofs
open Go.ConcN (WgLive Has RW DWs AtR0 PayAt)
open Go.ConcR (KK WgAt stA smA rd wr mk Payload)
variable [BaseB]
def Res8 (ds : List (Bt × SV)) (v v' : World) (val : Value) : Prop :=
 (Er (ds.map (·.1)) /\ ∃ pw pl L,val = .tuple #[pq pw 0,.nilIface] /\ v'.heap[pw]? = ob #[pq pl 0] 87 /\ MadeL v' pl ds L /\ v.heap.size <= pl /\ v.heap.size <= pw) \/
 (¬ Er (ds.map (·.1)) /\ val = .tuple #[.pointer none,.iface 90 (.agg #[.int .i64 1])])
theorem Ql {P : Program} {ops : Array Oper} {Q : Exit -> Act -> World -> Prop} {a : Act} {w : World} (l : List Oper) (k n : Nat) (hn : l.length = n) (hl : ∀ j,l[j]? = ops[k + j]?) (h : wpList P ops Q l a w) : wpOps P ops Q (List.range' k n) a w:=by
 rw [<- hn,wpOps_eq_wpList l k hl]
 exact h
theorem okb8 : Br Tryz.prog (Tryz.f16.body.getD .skip) = true:=by kernel_rfl
section
variable {ds : List (Bt × SV)} {b cap : Nat}
theorem Arh (u : World) (hI : InR u (some ⟨b,0,none⟩) ds) (hso : Er (ds.map (·.1))) (Φ : Act -> World -> Prop) (hΦ : ∀ v',Below u.heap.size u v' -> Φ ⟨#[.slice (some ⟨b,0,none⟩) ds.length cap,ud,.pointer none,.nilIface,.slice (some ⟨b,0,none⟩) ds.length cap,.bool true,.bool false,ud,ud,ud,ud,ud,ud],[]⟩ v') :
  c8.wp TryQ.prog (fun e a' v'=>e = .normal /\ a'.defers = [] /\ Φ a' v') ⟨#[.slice (some ⟨b,0,none⟩) ds.length cap,ud,.pointer none,.nilIface,ud,ud,ud,ud,ud,ud,ud,ud,ud],[]⟩ u:=by
 have hal:=Yv ds (some ⟨b,0,none⟩) cap u hI
 rw [decide_eq_true hso] at hal
 dsimp only [c8,Tryz.f16]
 go_wp2_with fail
 refine hal.mono ?_
 rintro e w1 ⟨rfl,hb⟩
 have:=hΦ _ hb
 clear hΦ
 go_wp2_with fail
 exact this
theorem no8 (u : World) (hI : InR u (some ⟨b,0,none⟩) ds) (hso : ¬ Er (ds.map (·.1))) (Ψ : Value -> World -> Prop) (hΨ : ∀ v',Below u.heap.size u v' -> Ψ (.tuple #[.pointer none,.iface 90 (.agg #[.int .i64 1])]) v') :
  (Tryz.f16.body.getD .skip).wp TryQ.prog (bodyPost TryQ.prog Tryz.f16 fun e v'=>∃ val,e = .returned val /\ Ψ val v') ⟨#[.slice (some ⟨b,0,none⟩) ds.length cap] ++ Array.replicate 12 ud,[]⟩ u:=by
 have hal:=Yv ds (some ⟨b,0,none⟩) cap u hI
 rw [decide_eq_false hso] at hal
 dsimp only [Tryz.f16,Option.getD_some]
 go_wp2_with fail
 refine hal.mono ?_
 rintro e w1 ⟨rfl,hb⟩
 go_wp2
 simp [bodyPost,results,go_sem]
 exact hΨ _ hb
theorem Aqy (u : World) (pl : Nat) (Ψ : Value -> World -> Prop) (hΨ : ∀ v',v'.heap[u.heap.size]? = ob #[pq pl 0] 87 -> Below u.heap.size u v' -> Ψ (.tuple #[pq u.heap.size 0,.nilIface]) v') :
  wpOps TryQ.prog ops8 (fun e a' v'=>e = .normal /\ e8.wp TryQ.prog (bodyPost TryQ.prog Tryz.f16 fun e v'=>∃ val,e = .returned val /\ Ψ val v') a' v') [2,3,4,5] ⟨#[.slice (some ⟨b,0,none⟩) ds.length cap,ud,.pointer none,.nilIface,.slice (some ⟨b,0,none⟩) ds.length cap,.bool true,.bool false,ud,ud,.slice (some ⟨b,0,none⟩) ds.length cap,pq pl 0,ud,ud],[]⟩ u:=by
 obtain ⟨fn,hfn⟩ : ∃ fn,fn = Tryz.f16:=⟨_,rfl⟩
 have hres : fn.results = #[ResultVar.tmp 2,ResultVar.tmp 3]:=by rw [hfn]; exact Tryz.results16
 rw [<- hfn]
 clear hfn
 obtain ⟨l,hl⟩ : ∃ l,l = ops8.toList.drop 2:=⟨_,rfl⟩
 have hl':=hl
 simp only [ops8,d8,Tryz.f16,List.drop_succ_cons,List.drop_zero] at hl'
 refine Ql l 2 4 (by rw [hl']; rfl) (fun j=>by rw [hl]; simp) ?_
 rw [hl']
 dsimp only [e8,ops8,d8,Tryz.f16]
 clear hl' hl l
 go_wp2
 simp [bodyPost,results,hres,go_sem]
 exact hΨ _ (Al u _) ba
end
theorem Tu {B : Nat} {Shun : Loc -> Prop} {D : Nat -> Prop} {ds : List (Bt × SV)} {b cap o : Nat} {X : Array Value} {b₀ : Frame} {a₀ : Act} {ops₀ : Array Oper} {i₀ : Nat} {rest₀ : List Nat} {k₀ : List Item} {cs : List Frame} {w v : World} {m : Machine} {t : Trace}
  (hB : B <= w.heap.size) (hb0 : BaseB.b0 <= v.heap.size) (hrel : Rel (veil D) w v) (hdk : Dk B D w) (hhid : Gn (veil D) Shun) (hrow : v.heap[b]? = some (.cells X 52)) (hX0 : 0 < X.size) (hX : ds.length * 8 <= X.size) (h1 : X.all (·.oneCell') = true) (hI : InR v (some ⟨b,0,none⟩) ds) (ho : o + 64 < 2147483647)
  (hb₀ : b₀.kind = .normal) (ha₀ : a₀.defers = []) (ho₀ : Gl Tryz.prog ops₀ = true) (hk₀ : ∀ x ∈ k₀,Dc Tryz.prog x = true)
  (hst : Dv Tryz.prog Shun w.heap.size (o + 1) (G ((base 16).at ⟨#[.slice (some ⟨b,0,none⟩) ds.length cap] ++ Array.replicate 12 ud,[]⟩ [.code (Tryz.f16.body.getD .skip)]) (b₀.at a₀ (.inRegion ops₀ (i₀ :: rest₀) :: k₀) :: cs)) w m t) :
  Runs Tryz.prog m t fun m' t'=>∃ w' v' Shun' D' o' val,OnTo B Shun' D' w w' v v' /\ Res8 ds v v' val /\ o' <= o + 64 /\
   Dv Tryz.prog Shun' w'.heap.size (o' + 1) (G (after b₀ a₀ ops₀ i₀ rest₀ k₀ val) cs) w' m' t':=by
 by_cases hso : Er (ds.map (·.1))
 rotate_left
 ·have hwill:=Uh (D:=D) (f:=16) (fn:=Tryz.f16) (c:=Tryz.f16.body.getD .skip) (b:=base 16) (b₀:=b₀) (a₀:=a₀) (ops₀:=ops₀) (i₀:=i₀) (rest₀:=rest₀) (k₀:=k₀) (cw:=cs) (w:=w)
   (Ψ:=fun val v'=>∃ u,Rel (veil D) w u /\ val = .tuple #[.pointer none,.iface 90 (.agg #[.int .i64 1])] /\ Below u.heap.size u v')
   rfl TryQ.func16 rfl rfl okb8 hb₀ ha₀ ho₀ hk₀ ⟨v,hrel⟩ (a:=⟨#[.slice (some ⟨b,0,none⟩) ds.length cap] ++ Array.replicate 12 ud,[]⟩) (fun u hu=>no8 u (hI.tw (Kl hdk hrel hu)) hso _ (fun v' hb=>⟨u,hu,rfl,hb⟩))
  refine (Eh hhid hwill hst).mono fun m5 t5 h5=>?_
  obtain ⟨g5,w5,⟨val,v5,rfl,hr5,hs5,u,hu,hval,hb⟩,hst5⟩:=h5
  exact ⟨w5,v5,Shun,D,o,val,Fj hdk hrel hhid hB hu hr5 hs5 hb,.inr ⟨hso,hval⟩,by omega,hst5⟩
 have hnum : ds.length <= 64:=by simpa using hso.1
 refine (Dz (Apk (h0:=w.heap)) rfl hst).then fun m1 t1 h2=>?_
 obtain ⟨a1,w1,⟨rfl,hh1⟩,ho1,hst1⟩:=h2
 have hon1:=D5 (w':=w1) hdk hrel hhid hh1 ho1
 have hwill:=Afn (D:=D) (c:=c8) (b:=base 16) (k:=[.code d8]) (cw:=b₀.at a₀ (.inRegion ops₀ (i₀ :: rest₀) :: k₀) :: cs) (w:=w1) (a:=⟨#[.slice (some ⟨b,0,none⟩) ds.length cap,ud,.pointer none,.nilIface,ud,ud,ud,ud,ud,ud,ud,ud,ud],[]⟩)
  (Φ:=fun a' v'=>a' = ⟨#[.slice (some ⟨b,0,none⟩) ds.length cap,ud,.pointer none,.nilIface,.slice (some ⟨b,0,none⟩) ds.length cap,.bool true,.bool false,ud,ud,ud,ud,ud,ud],[]⟩ /\ ∃ u,Rel (veil D) w1 u /\ Below u.heap.size u v') rfl rfl okc8 (fun x hx=>by rw [List.mem_singleton.1 hx]; exact okd8) ⟨_,hon1.rel⟩
  (fun u hu=>Arh u (hI.tw (Kl hon1.dk hon1.rel hu)) hso _ (fun v' hb=>⟨rfl,u,hu,hb⟩))
 have hsz1 : w1.heap.size = w.heap.size:=by rw [hh1]
 rw [<- hsz1] at hst1
 refine (Eh hhid hwill hst1).then fun m2 t2 h3=>?_
 obtain ⟨g2,w2,⟨a2,v2,rfl,hr2,hs2,_,rfl,u2,hu2,hb2⟩,hst2⟩:=h3
 have hon2:=hon1.trans (Fj hon1.dk hon1.rel hhid (Nat.le_trans hB hon1.up) hu2 hr2 hs2 hb2)
 refine (Dz (mid8 (h0:=w2.heap)) rfl hst2).then fun m3 t3 h4=>?_
 obtain ⟨g3,w3,⟨rfl,hh3⟩,ho3,hst3⟩:=h4
 have hon3:=hon2.trans (D5 (w':=w3) hon2.dk hon2.rel hhid hh3 ho3)
 have hsz3 : w3.heap.size = w2.heap.size:=by rw [hh3]
 rw [<- hsz3] at hst3
 have hI3 : InR v2 (some ⟨b,0,none⟩) ds:=hI.tw hon3.tw
 refine (Aa4 (o:=o) (b₀:=base 16) (a₀:=⟨#[.slice (some ⟨b,0,none⟩) ds.length cap,ud,.pointer none,.nilIface,.slice (some ⟨b,0,none⟩) ds.length cap,.bool true,.bool false,ud,ud,.slice (some ⟨b,0,none⟩) ds.length cap,ud,ud,ud],[]⟩) (ops₀:=ops8) (i₀:=1) (rest₀:=[2,3,4,5]) (k₀:=[.code e8]) (Nat.le_trans hB hon3.up) (Nat.le_trans hb0 hon3.tw.size) hon3.rel hon3.dk hhid (hon3.tw.obj b _ hrow (.inl trivial)) hX0 hX h1 hI3 hso ho rfl rfl oko8 (fun x hx=>by rw [List.mem_singleton.1 hx]; exact oke8) hst3).then fun m4 t4 h5=>?_
 obtain ⟨w4,v4,pl,L,hon,hled,hpl,hst4⟩:=h5
 have hact : after (base 16) ⟨#[.slice (some ⟨b,0,none⟩) ds.length cap,ud,.pointer none,.nilIface,.slice (some ⟨b,0,none⟩) ds.length cap,.bool true,.bool false,ud,ud,.slice (some ⟨b,0,none⟩) ds.length cap,ud,ud,ud],[]⟩ ops8 1 [2,3,4,5] [.code e8] (pq pl 0) = (base 16).at ⟨#[.slice (some ⟨b,0,none⟩) ds.length cap,ud,.pointer none,.nilIface,.slice (some ⟨b,0,none⟩) ds.length cap,.bool true,.bool false,ud,ud,.slice (some ⟨b,0,none⟩) ds.length cap,pq pl 0,ud,ud],[]⟩ (.inRegion ops8 [2,3,4,5] :: [.code e8]):=rfl
 rw [hact] at hst4
 have hwill2:=Kh (D:=D1 D (w3.heap.size + 2)) (f:=16) (fn:=Tryz.f16) (c:=e8) (ops:=ops8) (l:=[2,3,4,5]) (b:=base 16) (b₀:=b₀) (a₀:=a₀) (ops₀:=ops₀) (i₀:=i₀) (rest₀:=rest₀) (k₀:=k₀) (cw:=cs) (w:=w4) (a:=⟨#[.slice (some ⟨b,0,none⟩) ds.length cap,ud,.pointer none,.nilIface,.slice (some ⟨b,0,none⟩) ds.length cap,.bool true,.bool false,ud,ud,.slice (some ⟨b,0,none⟩) ds.length cap,pq pl 0,ud,ud],[]⟩)
  (Ψ:=fun val v'=>∃ u,Rel (veil (D1 D (w3.heap.size + 2))) w4 u /\ val = .tuple #[pq u.heap.size 0,.nilIface] /\ v'.heap[u.heap.size]? = ob #[pq pl 0] 87 /\ Below u.heap.size u v')
  rfl TryQ.func16 rfl rfl oko8 oke8 hb₀ ha₀ ho₀ hk₀ ⟨_,hon.rel⟩ (fun u hu=>Aqy u pl _ (fun v' hc hb=>⟨u,hu,rfl,hc,hb⟩))
 refine (Eh hon.hid hwill2 hst4).mono fun m5 t5 h6=>?_
 obtain ⟨g5,w5,⟨val,v5,rfl,hr5,hs5,u,hu,hval,hcell,hb⟩,hst5⟩:=h6
 have hon4:=hon3.trans hon
 have hon5:=Fj hon.dk hon.rel hon.hid (Nat.le_trans hB hon4.up) hu hr5 hs5 hb
 have hus : v4.heap.size = u.heap.size:=by rw [hon.rel.size,hu.size]
 exact ⟨w5,v5,_,_,o + ds.length,val,hon4.trans hon5,.inl ⟨hso,_,pl,L,hval,hcell,hled.tw hon5.tw,Nat.le_trans hon3.tw.size hpl,by rw [<- hus]; exact hon4.tw.size⟩,by omega,hst5⟩
end Go.Mark
namespace Go.Mark
open Go.Conc Go.Walk Go.Phase Go.RowKit Go.Conc.Lib Go.ConcR.Gen Go.ConcN.Gen Go.Lift Go.Proofs
theorem Tp {P : Program} {ops : Array Oper} {Φ : Act -> World -> Prop} {l2 : List Nat} : ∀ (l : List Nat) (a : Act) (w : World),wpOps P ops (fun e a' w'=>e = .normal /\ Φ a' w') l a w -> ∀ (b : Frame) (k : List Item) (cs : List Frame),∃ a' w',Φ a' w' /\ Steps P (lone (b.at a (.inRegion ops (l ++ l2) :: k)) cs w) (lone (b.at a' (.inRegion ops l2 :: k)) cs w')
 | [],a,w,h,_,_,_=>⟨a,w,h.2,Steps.refl _ _⟩
 | i :: rest,a,w,h,b,k,cs=>by
  have ih:=Tp (P:=P) (ops:=ops) (Φ:=Φ) (l2:=l2) rest
  rw [List.cons_append]
  simp only [wpOps] at h
  cases ho : ops[i]? with
  | none =>
   simp only [ho] at h
   obtain ⟨a',w',hq,hs'⟩:=ih a w h b k cs
   have hs:=step_op_skip (P:=P) (b:=b) (a:=a) (k:=k) (cs:=cs) (w:=w) (ops:=ops) (i:=i) (rest:=rest ++ l2) (by simp [ho])
   simp only [ho,Option.bind_none,Act.put] at hs
   exact ⟨a',w',hq,(Steps.one hs).trans hs'⟩
  | some o =>
   simp only [ho] at h
   by_cases hw : Region.wanted o (yielded ops a.tmps) = true
   ·simp only [hw,if_true] at h
    rcases h with h | ⟨_,_,_,hq,_⟩
    case inr=>cases hq
    simp only [Oper.wp,Oper.upon] at h
    have hg:=stepG_op (P:=P) (b:=b) (k:=k) (cs:=cs) (w:=w) (rest:=rest ++ l2) ho hw
    have hfin : ∀ v,(b.at a (.inRegion ops (i :: (rest ++ l2)) :: k)).finish v = b.at (a.put o.dst v) (.inRegion ops (rest ++ l2) :: k):=by
     intro v; rw [Frame.finish_at,ho]; rfl
    split at h
    ·rename_i v w' hr
     obtain ⟨a',w'',hq,hs'⟩:=ih _ _ h b k cs
     refine ⟨a',w'',hq,(Steps.one (step_lone_go ?_)).trans hs'⟩
     rw [hg,<- hfin]; simp [stepG.apply,hr]
    ·rename_i w' hr
     obtain ⟨a',w'',hq,hs'⟩:=ih _ _ h b k cs
     refine ⟨a',w'',hq,(Steps.one (step_lone_go ?_)).trans hs'⟩
     rw [hg,<- hfin]; simp [stepG.apply,hr]
    ·rename_i d w' hr
     obtain ⟨a',w'',hq,hs'⟩:=ih _ _ h b k cs
     refine ⟨a',w'',hq,(Steps.one (step_lone_go ?_)).trans hs'⟩
     have : ({ b.at a (.inRegion ops (i :: (rest ++ l2)) :: k) with defers:=d :: a.defers } : Frame).finish ud =
       b.at ({ a with defers:=d :: a.defers }.put o.dst ud) (.inRegion ops (rest ++ l2) :: k):=by
      have:=Frame.finish_at b { a with defers:=d :: a.defers } ops i (rest ++ l2) k ud
      rw [ho] at this; exact this
     rw [hg]; simp only [stepG.apply,Sem.runT_eq,hr,GStep.bare_after]
     exact congrArg (fun fr=>GStep.go { frame:=fr,callers:=cs,status:=.running,dying:=none } w') this
    ·rename_i f args w' hr
     obtain ⟨e,w'',fr,hR,hsteps,_,hleave⟩:=h (b.at a (.inRegion ops (i :: (rest ++ l2)) :: k) :: cs)
     have henter : step P (lone (b.at a (.inRegion ops (i :: (rest ++ l2)) :: k)) cs w) =
       .next (lone (Frame.enter P f args .normal) (b.at a (.inRegion ops (i :: (rest ++ l2)) :: k) :: cs) w') :=
      step_lone_go (by rw [hg]; simp [stepG.apply,hr,Frame.at])
     cases e with
     | returned v =>
      obtain ⟨a',w₃,hq,hs'⟩:=ih _ _ hR b k cs
      refine ⟨a',w₃,hq,(Steps.head henter (hsteps.trans (.one ?_))).trans hs'⟩
      rw [<- hfin]; exact step_leave_returned hleave
     | panicked chain=>cases hR.1
     | outgrown =>
      obtain ⟨_,_,hq,_⟩:=hR
      cases hq
    ·rename_i row args w' hr
     obtain ⟨v,w'',hR,hsteps⟩:=h (b.at a (.inRegion ops (i :: (rest ++ l2)) :: k)) cs
     have henter : step P (lone (b.at a (.inRegion ops (i :: (rest ++ l2)) :: k)) cs w) =
       .next (lone (Frame.ofRow P row args .normal) (b.at a (.inRegion ops (i :: (rest ++ l2)) :: k) :: cs) w') :=
      step_lone_go (by rw [hg]; simp [stepG.apply,hr,Frame.at])
     obtain ⟨a',w₃,hq,hs'⟩:=ih _ _ hR b k cs
     refine ⟨a',w₃,hq,(Steps.head henter ?_).trans hs'⟩
     rw [<- hfin]; exact hsteps
    ·cases h.1
    ·exact h.elim
   ·simp only [hw,if_false,Bool.false_eq_true] at h
    obtain ⟨a',w',hq,hs'⟩:=ih _ _ h b k cs
    have hs:=step_op_skip (P:=P) (b:=b) (a:=a) (k:=k) (cs:=cs) (w:=w) (ops:=ops) (i:=i) (rest:=rest ++ l2)
     (by simp [ho]; simpa using hw)
    simp only [ho,Option.bind_some] at hs
    exact ⟨a',w',hq,(Steps.one hs).trans hs'⟩
theorem Yb {D : Nat -> Prop} {ops : Array Oper} {l l2 : List Nat} {b : Frame} {a : Act} {k : List Item} {cw : List Frame} {w : World} {Φ : Act -> World -> Prop} (hb : b.kind = .normal) (ha : a.defers = []) (hc : Gl Tryz.prog ops = true) (hk : ∀ x ∈ k,Dc Tryz.prog x = true)
  (hex : ∃ v,Rel (veil D) w v) (hwp : ∀ v,Rel (veil D) w v -> wpOps TryQ.prog ops (fun e a' v'=>e = .normal /\ a'.defers = [] /\ Φ a' v') l a v) :
  I7 Tryz.prog (Ho (veil D)) (fun g w'=>∃ a' v',g = G (b.at a' (.inRegion ops l2 :: k)) cw /\ Rel (veil D) w' v' /\ J7 w w' v' /\ a'.defers = [] /\ Φ a' v') (G (b.at a (.inRegion ops (l ++ l2) :: k)) cw) w:=by
 have tc : ∀ a' : Act,a'.defers = [] -> ∀ l,TameF Tryz.prog (b.at a' (.inRegion ops l :: k)):=fun a' ha' l=>Ga hb ha' (fun x hx=>by rcases List.mem_cons.1 hx with rfl | hx; exact hc; exact hk x hx)
 refine H7 ?_ (lift (fair D) (cw:=cw) (S:=fun fr frs v=>∃ a',fr = b.at a' (.inRegion ops l2 :: k) /\ frs = [] /\ a'.defers = [] /\ Φ a' v) (fr:=b.at a (.inRegion ops (l ++ l2) :: k)) (frs:=[]) (w:=w)
  (tc a ha _) (fun f hf=>by simp at hf) hex (fun v hv=>?_))
 ·rintro g w' ⟨fr,frs,v,rfl,hr,hs,a',rfl,rfl,hd,hΦ⟩
  exact ⟨a',v,rfl,hr,hs,hd,hΦ⟩
 ·obtain ⟨a',v',⟨hd,hΦ⟩,n,hn⟩:=Tp (l2:=l2) l a v (hwp v hv) b k [trap FQ.size]
  rw [TryQ.prog_eq] at hn
  exact ⟨n,b.at a' (.inRegion ops l2 :: k),[],v',hn,tc a' hd _,a',rfl,rfl,hd,hΦ⟩
def chain : List Code -> Code -> Code
 | [],c=>c
 | d :: l,c=>.seq d (chain l c)
def Da (P : Program) (Q : Act -> World -> Prop) : List Code -> Act -> World -> Prop
 | [],a,w=>Q a w
 | d :: l,a,w=>d.wp P (fun e a' w'=>e = .normal /\ Da P Q l a' w') a w
theorem O3 {P : Program} {Φ : Act -> World -> Prop} (c : Code) : ∀ (l : List Code) (a : Act) (w : World),Da P Φ l a w -> ∀ (b : Frame) (k : List Item) (cs : List Frame),∃ a' w',Φ a' w' /\ Steps P (lone (b.at a (.code (chain l c) :: k)) cs w) (lone (b.at a' (.code c :: k)) cs w')
 | [],a,w,h,_,_,_=>⟨a,w,h,Steps.refl _ _⟩
 | d :: l,a,w,h,b,k,cs=>by
  obtain ⟨e,a1,w1,⟨rfl,h1⟩,hs⟩:=h b (.code (chain l c) :: k) cs
  obtain ⟨a',w',hΦ,hs2⟩:=O3 c l a1 w1 h1 b k cs
  exact ⟨a',w',hΦ,(Steps.head step_seq hs).trans hs2⟩
theorem Q5 {D : Nat -> Prop} {l : List Code} {c : Code} {b : Frame} {a : Act} {k : List Item} {cw : List Frame} {w : World} {Φ : Act -> World -> Prop} (hb : b.kind = .normal) (ha : a.defers = []) (hc : Br Tryz.prog (chain l c) = true) (hc' : Br Tryz.prog c = true) (hk : ∀ x ∈ k,Dc Tryz.prog x = true)
  (hex : ∃ v,Rel (veil D) w v) (hwp : ∀ v,Rel (veil D) w v -> Da TryQ.prog (fun a' v'=>a'.defers = [] /\ Φ a' v') l a v) :
  I7 Tryz.prog (Ho (veil D)) (fun g w'=>∃ a' v',g = G (b.at a' (.code c :: k)) cw /\ Rel (veil D) w' v' /\ J7 w w' v' /\ a'.defers = [] /\ Φ a' v') (G (b.at a (.code (chain l c) :: k)) cw) w:=by
 refine H7 ?_ (lift (fair D) (cw:=cw) (S:=fun fr frs v=>∃ a',fr = b.at a' (.code c :: k) /\ frs = [] /\ a'.defers = [] /\ Φ a' v) (fr:=b.at a (.code (chain l c) :: k)) (frs:=[]) (w:=w)
  (Ga hb ha (fun x hx=>by rcases List.mem_cons.1 hx with rfl | hx; exact hc; exact hk x hx)) (fun f hf=>by simp at hf) hex (fun v hv=>?_))
 ·rintro g w' ⟨fr,frs,v,rfl,hr,hs,a',rfl,rfl,hd,hΦ⟩
  exact ⟨a',v,rfl,hr,hs,hd,hΦ⟩
 ·obtain ⟨a',v',⟨hd,hΦ⟩,n,hn⟩:=O3 c l a v (hwp v hv) b k [trap FQ.size]
  rw [TryQ.prog_eq] at hn
  exact ⟨n,b.at a' (.code c :: k),[],v',hn,Ga hb hd (fun x hx=>by rcases List.mem_cons.1 hx with rfl | hx; exact hc'; exact hk x hx),a',rfl,rfl,hd,hΦ⟩
end Go.Mark
