import Derived.Test.YtbephahokhnccaaGreatDoorXM10toM13
import Derived.Conc.LeavingOf
import Derived.Stop.LaidTwo
import Derived.LaidSub
set_option linter.unusedSectionVars false
set_option maxRecDepth 100000
set_option maxHeartbeats 4000000
namespace Go.Mark
open Go.Conc Go.Walk Go.Phase Go.RowKit Go.Conc.Lib Go.ConcR.Gen Go.ConcN.Gen Go.Lift Go.Proofs
open Go.ConcN (WgLive Has RW DWs AtR0 PayAt)
open Go.ConcR (KK WgAt stA smA rd wr mk Payload)
variable [BaseB]
theorem Gb.kept {W W' : World} {a d li ni : Addr} (h : Gb W a d li ni) (hs : W.heap.size <= W'.heap.size) (hk : ∀ b c t f,b < BaseB.b0 -> W.heap[b]? = some (.cells c t f) -> W'.heap[b]? = some (.cells c t f)) : Gb W' a d li ni:=by
 have row : ∀ b x,b < BaseB.b0 -> W.cell? ⟨b,0,none⟩ = some x -> W'.cell? ⟨b,0,none⟩ = some x:=fun b x hb hx=>by
  unfold World.cell? at hx
  cases ho : W.heap[b]? with
  | none=>rw [ho] at hx; cases hx
  | some o =>
   cases o with
   | cells c e f=>exact (World.cell?_of_block (a:=⟨b,0,none⟩) ((hk b c e f hb ho).trans ho.symm)).trans (by unfold World.cell?; exact hx)
   | _=>rw [ho] at hx; cases hx
 have l0:=h.lo
 exact ⟨h.lo,Nat.le_trans h.low hs,row 1 _ (by omega) h.ng,row 0 _ (by omega) h.dp,row 3 _ (by omega) h.lt,row 4 _ (by omega) h.et,row 5 _ (by omega) h.ins,let ⟨c,t,e⟩:=h.oa; ⟨c,t,hk _ _ _ _ (by omega) e⟩,let ⟨c,t,e⟩:=h.od; ⟨c,t,hk _ _ _ _ (by omega) e⟩,let ⟨c,t,e⟩:=h.ol; ⟨c,t,hk _ _ _ _ (by omega) e⟩,let ⟨c,t,e⟩:=h.oi; ⟨c,t,hk _ _ _ _ (by omega) e⟩,h.ne⟩
theorem Arn {W w v : World} {D : Nat -> Prop} {a d li ni : Addr} (h : Gb W a d li ni) (hdk : Dk BaseB.b0 D w) (hrel : Rel (veil D) w v) (hkw : ∀ b,b < BaseB.b0 -> w.heap[b]? = W.heap[b]?) (hup : W.heap.size <= w.heap.size) : Gb v a d li ni:=by
 refine h.kept (by rw [hrel.size]; exact hup) (fun b c t f hb hc=>?_)
 refine Aac hrel ((hkw b hb).trans hc) (fun hd=>?_)
 rcases hdk b hd with ⟨h1,_⟩ | ⟨_,o,ho,hf,_⟩
 ·omega
 ·rw [hkw b hb,hc] at ho
  cases ho
  exact hf trivial
theorem Anr (st ct : ByteArray) (hs : st.size <= 1024) (hc : ct.size <= 1024) : Er ([(d8a,(⟨none,0,0⟩ : SV)),(d8b st,⟨none,0,0⟩),(d8c ct,⟨none,0,0⟩)].map (·.1)):=by
 refine ⟨by simp,fun d hd=>?_,by simp,by simp [M]⟩
 simp only [List.map_cons,List.map_nil,List.mem_cons,List.not_mem_nil,or_false] at hd
 rcases hd with rfl | rfl | rfl
 ·simp [Es,ByteArray.size]
 ·simp [Es]
  omega
 ·simp [Es]
  omega
structure Cds (bad lent : Bool) (g v : Nat) (ct st : ByteArray) : Prop where
 hg : g < 60000
 hv : v < 100
 hl : lent = true -> v = 0
 hc : ct.data = cdC (if bad then 255 else 0)
 hs : st.data = if lent then cdL (UInt8.ofNat (g / 256)) (UInt8.ofNat g) else cdM (UInt8.ofNat v) (UInt8.ofNat (g / 256)) (UInt8.ofNat g)
theorem Cds.size {bad lent : Bool} {g v : Nat} {ct st : ByteArray} (h : Cds bad lent g v ct st) : st.size <= 1024 /\ ct.size <= 1024:=by
 refine ⟨?_,?_⟩
 ·show st.data.size <= 1024
  rw [h.hs]
  cases lent <;> simp [cdL,cdM]
 ·show ct.data.size <= 1024
  rw [h.hc]
  simp [cdC]
theorem Apr {bad lent : Bool} (n z : Int) (hn : -9223372036854775808 <= n) (hn' : n <= 9223372036854775807) (hz : -9223372036854775808 <= z) (hz' : z <= 9223372036854775807) (u : World) (Φ : Act -> World -> Prop) (hΦ : ∀ T g v ct st v',F8 T bad lent g v -> T[13]? = some (.string ct) -> T[14]? = some (.string st) -> Cds bad lent g v ct st -> Below u.heap.size u v' -> Φ ⟨T,[]⟩ v') :
  Da TryQ.prog (fun a' v'=>a'.defers = [] /\ Φ a' v') [ng8 0,ng8 1,ng8 2,ng8 3,ng8 4,ng8 5,ng8 6,ng8 7] ⟨t8C n z bad lent,[]⟩ u:=by
 refine str1 n z bad lent hn hn' hz hz' u (fun a w=>Da TryQ.prog (fun a' v'=>a'.defers = [] /\ Φ a' v') [ng8 4,ng8 5,ng8 6,ng8 7] a w) (fun g v T hg hv hT h12=>?_)
 refine str2 hT h12 u (fun a w=>Da TryQ.prog (fun a' v'=>a'.defers = [] /\ Φ a' v') [ng8 5,ng8 6,ng8 7] a w) (fun T1 w1 hT1 h13 hb1=>?_)
 cases lent
 ·refine Aqt hT1 h13 hg hv w1 (fun a w=>Da TryQ.prog (fun a' v'=>a'.defers = [] /\ Φ a' v') [] a w) (fun T2 st w2 hT2 h13 h14 hst hb2=>⟨rfl,hΦ T2 g v _ st w2 hT2 h13 h14 ⟨hg,hv,fun h=>(by cases h),rfl,hst⟩ (hb1.trans (hb2.mono hb1.size))⟩)
 ·refine Aqs hT1 h13 hg hv w1 (fun a w=>Da TryQ.prog (fun a' v'=>a'.defers = [] /\ Φ a' v') [] a w) (fun T2 st w2 hT2 h13 h14 hst hb2=>⟨rfl,hΦ T2 g 0 _ st w2 hT2 h13 h14 ⟨hg,by decide,fun _=>rfl,rfl,hst⟩ (hb1.trans (hb2.mono hb1.size))⟩)
theorem Y2 {Shun : Loc -> Prop} {D : Nat -> Prop} {n z : Int} {bad lent : Bool} {o : Nat} {a d li ni : Addr} {w v : World} {m : Machine} {t : Trace}
  (hB : BaseB.b0 <= w.heap.size) (hB1 : BaseB.b1 <= w.heap.size) (hgl : Gb w a d li ni) (hrel : Rel (veil D) w v) (hdk : Dk BaseB.b0 D w) (hhid : Gn (veil D) Shun) (ho : o + 200 < 2147483647) (hn : -9223372036854775808 <= n) (hn' : n <= 9223372036854775807) (hz : -9223372036854775808 <= z) (hz' : z <= 9223372036854775807)
  (hst : Dv Tryz.prog Shun w.heap.size (o + 1) (G ((base 8).at ⟨#[.int .i64 n,.int .i64 z,.bool bad,.bool lent] ++ Array.replicate 134 ud,[]⟩ [.code (Tryz.f8.body.getD .skip)]) []) w m t) :
  Runs Tryz.prog m t fun m' t'=>∃ (w' : World) (Shun' : Loc -> Prop) (N : Nat) (T : Array Value) (todo : List Item),(∀ b,b < BaseB.b0 -> w'.heap[b]? = w.heap[b]?) /\ (w'.os = w.os /\ w'.output = w.output) /\ w.heap.size <= w'.heap.size /\ T[8]? = some (.bool true) /\
   Dv Tryz.prog Shun' w'.heap.size N (G { (base 8).at ⟨T,[]⟩ todo with mode:=.returning } []) w' m' t':=by
 obtain ⟨T12,hT12⟩ : ∃ T,T = Array.replicate 76 ud:=⟨_,rfl⟩
 refine (Dz (sNs1 (h0:=w.heap) hT12) rfl hst).then fun m1 t1 h1=>?_
 clear hst
 obtain ⟨g1,w1,⟨rfl,hh1⟩,ho1,hst1⟩:=h1
 have hon1:=D5 (w':=w1) hdk hrel hhid hh1 ho1
 have hsz1 : w1.heap.size = w.heap.size:=by rw [hh1]
 rw [<- hsz1] at hst1
 -- known
 refine (Ab3 (o:=o) hT12 (Nat.le_trans hB hon1.up) hon1.rel hon1.dk hon1.hid (by omega) rfl rfl Aq8 (fun x hx=>by rw [List.mem_singleton.1 hx]; exact okn8) hst1).then fun m2 t2 h2=>?_
 clear hst1 hT12
 obtain ⟨w2,v2,Shun2,D2,o2,hon2',hhid2,ho2,hst2⟩:=h2
 have hon2:=hon1.toOn0.trans hon2'
 rw [Ar6] at hst2
 refine (Dz (sNs2 (h0:=w2.heap)) rfl hst2).then fun m3 t3 h3=>?_
 clear hst2
 obtain ⟨g3,w3,⟨rfl,hh3⟩,ho3,hst3⟩:=h3
 have hon3:=hon2.trans (D5 (w':=w3) hon2.dk hon2.rel hhid2 hh3 ho3).toOn0
 have hsz3 : w3.heap.size = w2.heap.size:=by rw [hh3]
 rw [<- hsz3,Aod] at hst3
 -- the numbers,the codes
 have hwill4:=Q5 (D:=D2) (l:=[ng8 0,ng8 1,ng8 2,ng8 3,ng8 4,ng8 5,ng8 6,ng8 7]) (c:=nd8) (b:=base 8) (k:=[]) (cw:=[]) (w:=w3) (a:=⟨t8C n z bad lent,[]⟩)
  (Φ:=fun a' v'=>∃ u T g v ct st,Rel (veil D2) w3 u /\ a' = ⟨T,[]⟩ /\ Below u.heap.size u v' /\ F8 T bad lent g v /\ T[13]? = some (.string ct) /\ T[14]? = some (.string st) /\ Cds bad lent g v ct st) rfl rfl Ara Aq9 (fun x hx=>by cases hx) ⟨_,hon3.rel⟩
  (fun u hu=>Apr n z hn hn' hz hz' u _ (fun T g v ct st v' h1 h2 h3 h4 hb=>⟨u,T,g,v,ct,st,hu,rfl,hb,h1,h2,h3,h4⟩))
 refine (Eh hhid2 hwill4 hst3).then fun m4 t4 h4=>?_
 clear hst3 hwill4
 obtain ⟨g4,w4,⟨a4,v4,rfl,hr4,hs4,_,u4,T4,g,vv,ct,st,hu4,rfl,hb4,hT4,h13,h14,hcd⟩,hst4⟩:=h4
 have hon4:=hon3.trans (Fj hon3.dk hon3.rel hhid2 (Nat.le_trans hB hon3.up) hu4 hr4 hs4 hb4).toOn0
 refine (Dz (sNs3 (h0:=w4.heap)) rfl hst4).then fun m5 t5 h5=>?_
 clear hst4
 obtain ⟨g5,w5,⟨rfl,hh5⟩,ho5,hst5⟩:=h5
 have hon5:=hon4.trans (D5 (w':=w5) hon4.dk hon4.rel hhid2 hh5 ho5).toOn0
 have hsz5 : w5.heap.size = w4.heap.size:=by rw [hh5]
 rw [<- hsz5] at hst5
 -- the accounts
 have hwill6:=Yb (D:=D2) (ops:=nops84) (l:=[0,1,2,3,4,5,6,7]) (l2:=[8,9,10,11,12,13]) (b:=base 8) (k:=[.code nr8]) (cw:=[]) (w:=w5) (a:=⟨T4,[]⟩)
  (Φ:=fun a' v'=>∃ u T b,Rel (veil D2) w5 u /\ a' = ⟨T,[]⟩ /\ Below u.heap.size u v' /\ v'.heap[b]? = ob (O6 d8a (d8b st) (d8c ct)) 52 /\ F8 T bad lent g vv /\ T[83]? = some (.slice (some ⟨b,0,none⟩) 3 3)) rfl rfl Amt (fun x hx=>by rw [List.mem_singleton.1 hx]; exact Amu) ⟨_,hon5.rel⟩
  (fun u hu=>Aq0 hT4 h13 h14 u _ (fun T b v' hb _ hrow hT h83=>⟨u,T,b,hu,rfl,hb,hrow,hT,h83⟩))
 refine (Eh hhid2 hwill6 hst5).then fun m6 t6 h6=>?_
 clear hst5 hwill6
 obtain ⟨g6,w6,⟨a6,v6,rfl,hr6,hs6,_,u6,T6,b,hu6,rfl,hb6,hrow,hT6,h83⟩,hst6⟩:=h6
 have hon6':=Fj hon5.dk hon5.rel hhid2 (Nat.le_trans hB hon5.up) hu6 hr6 hs6 hb6
 have hon6:=hon5.trans hon6'.toOn0
 refine (Dz (sNs4 (h0:=w6.heap) hT6 h83) rfl hst6).then fun m7 t7 h7=>?_
 clear hst6
 obtain ⟨g7,w7,⟨rfl,hh7⟩,ho7,hst7⟩:=h7
 have hon7':=D5 (w':=w7) hon6.dk hon6.rel hon6'.hid hh7 ho7
 have hon7:=hon6.trans hon7'.toOn0
 have hsz7 : w7.heap.size = w6.heap.size:=by rw [hh7]
 rw [<- hsz7] at hst7
 have hB3 : BaseB.b0 <= v6.heap.size:=by rw [hon7.rel.size]; exact Nat.le_trans hB hon7.up
 -- New
 refine (Tu (ds:=[(d8a,⟨none,0,0⟩),(d8b st,⟨none,0,0⟩),(d8c ct,⟨none,0,0⟩)]) (cap:=3) (o:=o2) (b₀:=base 8) (a₀:=⟨T6,[]⟩) (ops₀:=nops84) (i₀:=8) (rest₀:=[9,10,11,12,13]) (k₀:=[.code nr8]) (Nat.le_trans hB hon7.up) hB3 hon7.rel hon7.dk hon7'.hid hrow (by simp [O6,Am]) (by simp [O6,Am]) (by simp [O6,Am,Value.oneCell']) (Ajj hrow rfl rfl rfl (by decide) (by show 50 < M; decide) (by show 0 < M; decide)) (by omega) rfl rfl Amt (fun x hx=>by rw [List.mem_singleton.1 hx]; exact Amu) hst7).then fun m8 t8 h8=>?_
 clear hst7
 obtain ⟨w8,v8,Shun8,D8,o8,val8,hon8',hres8,ho8,hst8⟩:=h8
 have hon8:=hon7.trans hon8'.toOn0
 have hhid8:=hon8'.hid
 rcases hres8 with ⟨_,pw,pl,L,rfl,hpw,hmade,_,_⟩ | ⟨hno,_⟩
 rotate_left
 ·exact absurd (Anr st ct hcd.size.1 hcd.size.2) hno
 rw [Ar5] at hst8
 refine (Dz (sNs5 (h0:=w8.heap) hT6) rfl hst8).then fun m9 t9 h9=>?_
 clear hst8
 obtain ⟨g9,w9,⟨⟨T9,rfl,hT9,h15,h16⟩,hh9⟩,ho9,hst9⟩:=h9
 have hon9':=D5 (w':=w9) hon8.dk hon8.rel hhid8 hh9 ho9
 have hon9:=hon8.trans hon9'.toOn0
 have hsz9 : w9.heap.size = w8.heap.size:=by rw [hh9]
 rw [<- hsz9,An9] at hst9
 -- the order,and what came of it
 have hwill10:=Q5 (D:=D8) (l:=[ng8 9,ng8 10,ng8 11,ng8 12,ng8 13,ng8 14,ng8 15,ng8 16]) (c:=.ret) (b:=base 8) (k:=[]) (cw:=[]) (w:=w9) (a:=⟨T9,[]⟩)
  (Φ:=fun a' v'=>∃ u T,Rel (veil D8) w9 u /\ a' = ⟨T,[]⟩ /\ Bz u v' /\ T[8]? = some (.bool true)) rfl rfl An7 rfl (fun x hx=>by cases hx) ⟨_,hon9.rel⟩
  (fun u hu=>by
   have htu:=Kl hon9.dk hon9.rel hu
   exact Aps hT9 h15 h16 hcd.hg hcd.hv hcd.hl hcd.hc hcd.hs (hmade.tw htu) (htu.obj _ _ hpw (.inl trivial)) (by rw [hu.size]; exact Nat.le_trans hB hon9.up) (by rw [hu.size]; exact Nat.le_trans hB1 hon9.up) (Arn hgl hon9.dk hu hon9.kw hon9.up) _ (fun T v' h8 hbz=>⟨u,T,hu,rfl,hbz,h8⟩))
 refine (Eh hhid8 hwill10 hst9).then fun m10 t10 h10=>?_
 clear hst9 hwill10
 obtain ⟨g10,w10,⟨a10,v10,rfl,hr10,hs10,_,u10,T10,hu10,rfl,hbz,hT10⟩,hst10⟩:=h10
 have hon10:=hon9.trans (X0 hon9.dk hu10 hr10 hs10 (Nat.le_trans hB hon9.up) hbz.toBelow hbz.kz)
 refine (Dz (sNs7 (h0:=w10.heap) T10 hT10) rfl hst10).mono fun m13 t13 h13=>?_
 obtain ⟨g13,w13,⟨⟨T3,todo,rfl,hT3⟩,hh13⟩,ho13,hst13⟩:=h13
 have hon13:=hon10.trans (D5 (w':=w13) hon10.dk hon10.rel hhid8 hh13 ho13).toOn0
 have hsz13 : w13.heap.size = w10.heap.size:=by rw [hh13]
 rw [<- hsz13] at hst13
 exact ⟨w13,_,_,T3,todo,hon13.kw,hon13.os,hon13.up,hT3,hst13⟩
end Go.Mark
namespace Go.Mark
open Go.Conc Go.Walk Go.Phase Go.RowKit Go.Lift Go.Proofs
section
variable [BaseB]
def D0 (W : World) (b : Nat) : Prop:=∃ o,W.heap[b]? = some o /\ ¬ Hl (veil fun _=>False) o /\ ¬ Dw o
theorem rel0 (W : World) : ∃ v,Rel (veil (D0 W)) W v:=by
 refine Q8 (fun b hb=>?_) (fun b o ho hv hf=>⟨o,ho,fun h=>hf (J3.1 h),hv⟩) (fun b c e f hb hc=>?_)
 ·obtain ⟨o,ho,_⟩:=hb
  exact (Array.getElem?_eq_some_iff.1 ho).1
 ·obtain ⟨o,ho,hf,_⟩:=hb
  rw [hc] at ho
  cases ho
  exact absurd trivial hf
theorem dk0 (W : World) : Dk W.heap.size (D0 W) W:=fun b hb=>by
 obtain ⟨o,ho,hf,hv⟩:=hb
 exact .inr ⟨(Array.getElem?_eq_some_iff.1 ho).1,o,ho,fun h=>hf (J3.1 h),hv⟩
theorem Ano (W : World) (g : Goroutine) : Dv Tryz.prog (fun _=>False) W.heap.size (0 + 1) g W (solo g W) #[] :=
 ⟨#[g],none,fun _=>0,rfl,rfl,rfl,leavers_one _ _,⟨past_nil.mono (Nat.zero_le _),fun _ _ _ _ _ h=>h.elim,fun op hop=>by simp at hop,fun op hop=>by simp at hop⟩⟩
end
theorem Amc (x y x2 x3 : Value) : Frame.enter Tryz.prog 8 #[x,y,x2,x3] .normal = (base 8).at ⟨#[x,y,x2,x3] ++ Array.replicate 134 ud,[]⟩ [.code (Tryz.f8.body.getD .skip)]:=by
 have hb : Tryz.f8.body = some (Tryz.f8.body.getD .skip):=by kernel_rfl
 have hs : 138 - (#[x,y,x2,x3] : Array Value).size = 134:=rfl
 rw [enter_at _ Tryz.func8 hb,Tryz.ntmps8,hs]
theorem runN_add {P : Program} {m m' : Machine} {a : Nat} (h : runN P a m = .next m') (b : Nat) : runN P (a + b) m = runN P b m':=by
 induction a generalizing m with
 | zero =>
  simp only [runN,Stepped.next.injEq] at h
  subst h
  rw [Nat.zero_add]
 | succ a ih =>
  rw [Nat.succ_add]
  simp only [runN] at h ⊢
  cases hs : step P m with
  | next m1 =>
   rw [hs] at h
   exact ih h
  | ended o w =>
   rw [hs] at h
   cases h
def Ag6 (W : World) (v : Value) (w' : World) : Prop:=v = .bool true /\ (∀ b,b < W.heap.size -> w'.heap[b]? = W.heap[b]?) /\ (w'.os = W.os /\ w'.output = W.output) /\ W.heap.size <= w'.heap.size
theorem Ahv (W : World) (n z : Int) (bad lent : Bool) (hn : -9223372036854775808 <= n) (hn' : n <= 9223372036854775807) (hz : -9223372036854775808 <= z) (hz' : z <= 9223372036854775807) {a d li ni : Addr} (hgl : @Gb ⟨W.heap.size,W.heap.size,Nat.le_refl _⟩ W a d li ni) :
  ∃ M last o w' t',runNT Tryz.prog (M + 1) (solo (G (Frame.enter Tryz.prog 8 #[.int .i64 n,.int .i64 z,.bool bad,.bool lent] .normal) []) W) #[] = (.ended o w',t') /\ runN Tryz.prog M (solo (G (Frame.enter Tryz.prog 8 #[.int .i64 n,.int .i64 z,.bool bad,.bool lent] .normal) []) W) = .next last /\
   step Tryz.prog last = .ended o w' /\ Conc.Good Tryz.prog (Ag6 W) last o w' t':=by
 letI : BaseB:=⟨W.heap.size,W.heap.size,Nat.le_refl _⟩
 obtain ⟨v,hrel⟩:=rel0 W
 rw [Amc]
 obtain ⟨g0,hg0⟩ : ∃ g,g = G ((base 8).at ⟨#[.int .i64 n,.int .i64 z,.bool bad,.bool lent] ++ Array.replicate 134 ud,[]⟩ [.code (Tryz.f8.body.getD .skip)]) []:=⟨_,rfl⟩
 rw [<- hg0]
 have hst0:=Ano W g0
 have hrs:=Y2 (o:=0) (n:=n) (z:=z) (bad:=bad) (lent:=lent) (D:=D0 W) (w:=W) (v:=v) (m:=solo g0 W) (t:=#[]) (Shun:=fun _=>False) (Nat.le_refl _) (Nat.le_refl _) hgl hrel (dk0 W) (fun l hl=>hl.elim) (by omega) hn hn' hz hz' (by rw [<- hg0]; exact hst0)
 clear hst0 hg0
 obtain ⟨N,m1,t1,hrun,w1,Shun1,N1,T,todo,hkw,hos,hup,hT,hst⟩:=hrs
 obtain ⟨gs,sl,q,rfl,hn,h0,hL,hP⟩:=hst.ex
 have hgo : Goes Tryz.prog true AtRel (fun _ _ _=>False) (AtEnd Tryz.prog Shun1 w1.heap.size (Ag6 W)) 0 (G { (base 8).at ⟨T,[]⟩ todo with mode:=.returning } []) w1:=fun w₂ h₂=>by
  obtain ⟨d,rfl⟩:=h₂
  refine ⟨rfl,.bool true,#[],?_,by simp,rfl,hkw,hos,hup⟩
  simp [G,stepG,unwind,doReturn,results,Frame.at,base,Tryz.func8,seen,GStep.after,hT]
 obtain ⟨M,last,o,w',t',k1,k2,k3,k4⟩:=beside_ends (sl:=sl) (fun _ _ _ h=>h.elim) h0 hL hP.past hgo
 refine ⟨N + M,last,o,w',t',?_,?_,k3,k4⟩
 ·rw [Nat.add_assoc,runNT_add,hrun]
  exact k1
 ·rw [runN_add (by rw [<- runNT_fst _ _ _ #[],hrun])]
  exact k2
end Go.Mark
namespace Go.Mark
open Go.Proofs Go.RowKit Go.ChangeShapes
theorem gt0 : (Tryz.prog.globals[0]?).map (·.type) = some 36:=by kernel_rfl
theorem gt1 : (Tryz.prog.globals[1]?).map (·.type) = some 36:=by kernel_rfl
theorem gt3 : (Tryz.prog.globals[3]?).map (·.type) = some 36:=by kernel_rfl
theorem gn0 : Tryz.prog.globalNamed "purser/machine.ErrDeep" = some 0:=by kernel_rfl
theorem gn1 : Tryz.prog.globalNamed "purser/machine.ErrNoGas" = some 1:=by kernel_rfl
theorem gn3 : Tryz.prog.globalNamed "purser/ledger.ErrLittle" = some 3:=by kernel_rfl
theorem gn4 : Tryz.prog.globalNamed "errors.errorType" = some 4:=by kernel_rfl
theorem tsz : Tryz.prog.types.size = 443:=by kernel_rfl
theorem rtp : (Tryz.prog.cutTypes.find? (·.1 == "internal/reflectlite.rtype")).map (·.2) = some 355:=by kernel_rfl
theorem An5 : ((List.range 443).filter fun t=>Tryz.prog.rowNamed t [101,114,114,111,114]) = [36]:=by kernel_rfl
theorem hnd : typeHandle Tryz.prog 36 = pq 11 36:=by kernel_rfl
theorem star : "*" ++ "errors.errorString" = "*errors.errorString":=by decide
theorem Anv (u : TypeId) (h : Tryz.prog.typeName? 3 u = some "*errors.errorString") : u = 407 :=
 typeName_ptr_named (nm:= "errors.errorString") (by rw [star]; kernel_rfl) (by kernel_rfl) (by decide) u (by rw [star]; exact h)
theorem Aj2 : Tryz.prog.cellsOf 431 = 1:=by kernel_rfl
theorem Amj : Tryz.prog.cellsOf 9 = 1:=by kernel_rfl
theorem gt5 : (Tryz.prog.globals[5]?).map (·.type) = some 36:=by kernel_rfl
theorem gn5 : Tryz.prog.globalNamed "purser/machine.ErrNoInstruction" = some 5:=by kernel_rfl
theorem K9 {W : World} {k1 k2 : String} {i1 i2 : Nat} {x1 x2 : List UInt8} {r : List (String × DataW Unit)} (h : laidMet Tryz.prog ((k1,.iface "*errors.errorString" (.ptr (.agg [.lit (.string x1)]))) :: (k2,.iface "*errors.errorString" (.ptr (.agg [.lit (.string x2)]))) :: r) W) (g1 : Tryz.prog.globalNamed k1 = some i1) (t1 : (Tryz.prog.globals[i1]?).map (·.type) = some 36) (g2 : Tryz.prog.globalNamed k2 = some i2) (t2 : (Tryz.prog.globals[i2]?).map (·.type) = some 36) :
  ∃ p q,W.cell? ⟨i1,0,none⟩ = some (.iface 407 (.pointer (some p))) /\ W.cell? ⟨i2,0,none⟩ = some (.iface 407 (.pointer (some q))) /\ p ≠ q /\ (∃ c t,W.heap[p.block]? = ob c t) /\ ∃ c t,W.heap[q.block]? = ob c t:=by
 obtain ⟨a,d,_,_,ca,cd,ta,td,va,vd,_,_,_,_,_,_,had,ra,rd⟩:=laid_sentinels2 h g1 t1 g2 t2 Tryz.underlying36 Anv Tryz.underlying407 Tryz.underlying431 rfl rfl Tryz.underlying9 Aj2 Amj
 exact ⟨a,d,by simpa using World.var?_cell g1 va 0,by simpa using World.var?_cell g2 vd 0,had,⟨_,_,ra⟩,_,_,rd⟩
theorem Aro {W : World} {xl xi xg xd : List UInt8} {r1 r2 r3 r4 r5 : List (String × DataW Unit)} (h1 : laidMet Tryz.prog (("purser/ledger.ErrLittle",.iface "*errors.errorString" (.ptr (.agg [.lit (.string xl)]))) :: ("purser/machine.ErrNoInstruction",.iface "*errors.errorString" (.ptr (.agg [.lit (.string xi)]))) :: r1) W)
  (h2 : laidMet Tryz.prog (("purser/ledger.ErrLittle",.iface "*errors.errorString" (.ptr (.agg [.lit (.string xl)]))) :: ("purser/machine.ErrNoGas",.iface "*errors.errorString" (.ptr (.agg [.lit (.string xg)]))) :: r2) W)
  (h3 : laidMet Tryz.prog (("purser/ledger.ErrLittle",.iface "*errors.errorString" (.ptr (.agg [.lit (.string xl)]))) :: ("purser/machine.ErrDeep",.iface "*errors.errorString" (.ptr (.agg [.lit (.string xd)]))) :: r3) W)
  (h4 : laidMet Tryz.prog (("purser/machine.ErrNoInstruction",.iface "*errors.errorString" (.ptr (.agg [.lit (.string xi)]))) :: ("purser/machine.ErrDeep",.iface "*errors.errorString" (.ptr (.agg [.lit (.string xd)]))) :: r4) W)
  (h5 : laidMet Tryz.prog (("purser/machine.ErrNoGas",.iface "*errors.errorString" (.ptr (.agg [.lit (.string xg)]))) :: ("purser/machine.ErrDeep",.iface "*errors.errorString" (.ptr (.agg [.lit (.string xd)]))) :: r5) W)
  (he : W.cell? ⟨4,0,none⟩ = some (.iface 355 (.agg #[pq 11 36]))) : ∃ a d li ni,@Gb ⟨W.heap.size,W.heap.size,Nat.le_refl _⟩ W a d li ni:=by
 have same : ∀ {i : Nat} {p q : Addr},W.cell? ⟨i,0,none⟩ = some (.iface 407 (.pointer (some p))) -> W.cell? ⟨i,0,none⟩ = some (.iface 407 (.pointer (some q))) -> p = q:=fun hp hq=>by
  have:=hp.symm.trans hq
  simpa using this
 obtain ⟨li,ni,c1,c2,n1,o1,o2⟩:=K9 h1 gn3 gt3 gn5 gt5
 obtain ⟨li2,a,c3,c4,n2,_,o4⟩:=K9 h2 gn3 gt3 gn1 gt1
 obtain ⟨li3,d,c5,c6,n3,_,o6⟩:=K9 h3 gn3 gt3 gn0 gt0
 obtain ⟨ni2,d2,c7,c8,n4,_,_⟩:=K9 h4 gn5 gt5 gn0 gt0
 obtain ⟨a2,d3,c9,c0,n5,_,_⟩:=K9 h5 gn1 gt1 gn0 gt0
 obtain rfl:=same c1 c3
 obtain rfl:=same c1 c5
 obtain rfl:=same c2 c7
 obtain rfl:=same c6 c8
 obtain rfl:=same c4 c9
 obtain rfl:=same c6 c0
 letI : BaseB:=⟨W.heap.size,W.heap.size,Nat.le_refl _⟩
 have lt : ∀ {b : Nat},(∃ c t,W.heap[b]? = ob c t) -> b < W.heap.size:=fun ⟨_,_,h⟩=>(Array.getElem?_eq_some_iff.1 h).1
 exact ⟨a,d,li,ni,⟨World.block_lt_of_cell? W ⟨5,0,none⟩ c2,lt o4,lt o6,lt o1,lt o2⟩,Nat.le_refl _,c4,c6,c1,he,c2,o4,o6,o1,o2,n5,fun e=>n2 e.symm,n4,fun e=>n1 e.symm,n3⟩
end Go.Mark
