import Derived.Test.YtbephahokhnccaaGreatDoorXD1toD4
set_option linter.unusedSectionVars false
set_option maxRecDepth 100000
set_option maxHeartbeats 4000000
namespace Go.Walk
open Go.Conc
theorem Yi {P : Program} {main : Bool} {R : World -> World -> Prop} {D : World -> World -> Array Event -> Prop} {Stop : Goroutine -> World -> Prop} {F F' : World -> Prop} {n : Nat} (E : Env R D F)
  {b : Frame} {a : Act} {k : List Item} {cs : List Frame} {ops : Array Oper} {i : Nat} {rest : List Nat} {o : Oper} (ho : ops[i]? = some o) (hw : Region.wanted o (yielded ops a.tmps) = true) (hk : b.kind ≠ .early)
  (hr : ∀ w,F w -> ∃ w',(execOp a.eval o).run P w = .ok .skip w' /\ D w w' (listed P b.fn a o w) /\ F' w') (h : GoW P main R D Stop F' n (G (b.at (a.put o.dst ud) (.inRegion ops rest :: k)) cs)) :
  GoW P main R D Stop F (n + 1) (G (b.at a (.inRegion ops (i :: rest) :: k)) cs) :=
 fun _ hw'=>Goes.step rfl fun w₁ h₁=>by
  obtain ⟨w',e,hD,hF'⟩:=hr w₁ (E.cl _ _ hw' h₁)
  rw [stepG_none ho hw hk e]
  exact ⟨hD,h _ hF'⟩
theorem Im {P : Program} {ad : Addr} {u v : Value} {w : World} (hv : ∀ z,v ≠ .agg z) (hv' : ∀ z,v ≠ .tuple z) (hc : w.cell? ad = some u) (hf : w.frozen? ad = false) :
  (store ad v).run P w = .ok () (w.setCell ad v) /\ ∀ es,(store ad v).events P w es = es.push ⟨.cell ad,true,false⟩:=by
 have h : ∀ es,(store ad v).runT P w es = (.ok () (w.setCell ad v),es.push ⟨.cell ad,true,false⟩):=fun es=>by
  show Sem.runT P (.store .plain ad v (.pure ())) w es = _
  cases v with
  | agg z=>exact absurd rfl (hv z)
  | tuple z=>exact absurd rfl (hv' z)
  | _=>simp [Sem.runT,hc,hf]; try rfl
 refine ⟨?_,fun es=>?_⟩
 ·show Sem.run P (.store .plain ad v (.pure ())) w = _
  cases v with
  | agg z=>exact absurd rfl (hv z)
  | tuple z=>exact absurd rfl (hv' z)
  | _=>simp [Sem.run,hc,hf]
 ·have:=h es
  rw [Sem.events,this]
theorem Dx {P : Program} {o : Oper} {ev : Operand -> Value} {t : TypeId} {x y : Operand} {ad : Addr} {u v : Value} {w : World} (hop : o.op = .store t x y) (hx : ev x = .pointer (some ad)) (hy : ev y = v) (hv : ∀ z,v ≠ .agg z) (hv' : ∀ z,v ≠ .tuple z) (hz : ∀ w,Sem.run P (Go.sizeOf t) w = .ok 1 w) (hc : w.cell? ad = some u) (hf : w.frozen? ad = false) :
  (execOp ev o).run P w = .ok .skip (w.setCell ad v) /\ (execOp ev o).events P w #[] = #[⟨.cell ad,true,false⟩]:=by
 have h0:=Im (P:=P) hv hv' hc hf
 unfold execOp
 simp only [hop,hx,hy]
 cases v with
 | agg z=>exact absurd rfl (hv z)
 | tuple z=>exact absurd rfl (hv' z)
 | _ =>
  constructor
  ·simp [go_sem,stored,hz,hc,hf,h0.1]
  ·simp [go_sem,storedEv,hz,hc,hf,h0.2]
theorem Ns {P : Program} {main : Bool} {R : World -> World -> Prop} {D : World -> World -> Array Event -> Prop} {Stop : Goroutine -> World -> Prop} {F F' : World -> Prop} {n : Nat} (E : Env R D F)
  {b : Frame} {a : Act} {k : List Item} {cs : List Frame} {ops : Array Oper} {i : Nat} {rest : List Nat} {o : Oper} {t : TypeId} {x y : Operand} {ad : Addr} {v : Value} (ho : ops[i]? = some o) (hw : Region.wanted o (yielded ops a.tmps) = true) (hk : b.kind ≠ .early)
  (hop : o.op = .store t x y) (hx : a.eval x = .pointer (some ad)) (hy : a.eval y = v) (hv : ∀ z,v ≠ .agg z) (hv' : ∀ z,v ≠ .tuple z) (hz : ∀ w,Sem.run P (Go.sizeOf t) w = .ok 1 w)
  (hr : ∀ w,F w -> (∃ u,w.cell? ad = some u) /\ w.frozen? ad = false /\ (∀ es : Array Event,(∀ e ∈ es,e = ⟨.cell ad,true,false⟩) -> D w (w.setCell ad v) es) /\ F' (w.setCell ad v))
  (h : GoW P main R D Stop F' n (G (b.at (a.put o.dst ud) (.inRegion ops rest :: k)) cs)) : GoW P main R D Stop F (n + 1) (G (b.at a (.inRegion ops (i :: rest) :: k)) cs) :=
 Yi E ho hw hk (fun w hF=>by
  obtain ⟨⟨u,hu⟩,hz',hD,hF'⟩:=hr w hF
  have hh:=Dx (P:=P) hop hx hy hv hv' hz hu hz'
  refine ⟨_,hh.1,hD _ (fun e he=>?_),hF'⟩
  have he:=mem_listed he
  rw [hh.2,Array.mem_singleton] at he
  exact he) h
end Go.Walk
namespace Go.Mark
open Go.Conc Go.Walk Go.Phase Go.RowKit Go.Conc.Lib Go.ConcR.Gen Go.ConcN.Gen Go.Lift Go.Proofs
open Go.ConcN (WgLive Has RW DWs AtR0 PayAt)
open Go.ConcR (KK WgAt stA smA rd wr mk Payload)
abbrev sl (b m : Nat) : Value:=.slice (some ⟨b,0,none⟩) m m
def byt (s : ByteArray) (p : Nat) : Nat:=if h : p < s.size then (s[p]'h).toNat else 0
theorem Apt (s : ByteArray) (p : Nat) : byt s p < 256:=by
 unfold byt
 split
 ·exact UInt8.toNat_lt _
 ·omega
def F7 (s : ByteArray) (p : Nat) : Nat:=if 96 <= byt s p /\ byt s p <= 127 then byt s p - 94 else 1
theorem Aft (s : ByteArray) (p : Nat) : 1 <= F7 s p:=by unfold F7; split <;> omega
def marks (s : ByteArray) : Nat -> Nat -> Array Value -> Array Value
 | 0,_,A=>A
 | k + 1,p,A=>if p < s.size then marks s k (p + F7 s p) (A.setIfInBounds p (.bool ((byt s p : Int) == 48))) else A
theorem Aaj (w : World) (s : ByteArray) : (Builtin.len_ #[9] 3 #[.string s]).events Tryz.prog w #[] = #[]:=by
 simp [Builtin.len_,go_sem]
theorem Api (w : World) (s : ByteArray) (p : Nat) (h : p < s.size) : (Instr.index 9 (.string s) (.int .i64 p)).events Tryz.prog w #[] = #[]:=by
 simp [Instr.index,go_sem,h]
section
variable {c : Cfg} {Low i b : Nat} {X : World -> Prop}
structure FM (X : World -> Prop) (b : Nat) (A : Array Value) (w : World) : Prop where
 x : X w
 blk : w.heap[b]? = some (.cells A 4)
theorem Ady (hX : ∀ w w₁,X w -> RX c Low i (· = b) w w₁ -> X w₁) (A : Array Value) : Env (RX c Low i (· = b)) (DB c Low b i) (FM X b A) :=
 ⟨fun _ _ h r=>⟨hX _ _ h.x r,(r.mine b rfl).trans h.blk⟩,fun w=>Aak w⟩
noncomputable def E5 : Code:=match Tryz.f99.body with
 | some (.seq _ (.seq _ (.seq (.seq _ (.block _ (.loop l))) _)))=>l
 | _=>.skip
noncomputable def I9 : Code:=match Tryz.f99.body with
 | some (.seq _ (.seq _ (.seq _ r)))=>r
 | _=>.skip
theorem Tj {w : World} {A : Array Value} {p : Nat} (hb : w.heap[b]? = some (.cells A 4)) (hp : p < A.size) (v : Value) :
  (∃ u,w.cell? ⟨b,p,none⟩ = some u) /\ w.frozen? ⟨b,p,none⟩ = false /\ (w.setCell ⟨b,p,none⟩ v).heap[b]? = some (.cells (A.setIfInBounds p v) 4):=by
 refine ⟨⟨A[p],by simp [World.cell?,hb,hp]⟩,by simp [World.frozen?,hb],?_⟩
 rw [setCell_eq_setRow w b p A _ (0,0) _ hb,setRow_heap w b _ _ _ _ hb]
theorem Apm (I : IsC c) (hbC : b ≠ c.C) {w : World} {A : Array Value} {p : Nat} (hb : w.heap[b]? = some (.cells A 4)) (hp : p < A.size) (v : Value) {es : Array Event} (hes : ∀ e ∈ es,e = ⟨.cell ⟨b,p,none⟩,true,false⟩) :
  DB c Low b i w (w.setCell ⟨b,p,none⟩ v) es:=by
 have hA:=aside_setCell w ⟨b,p,none⟩ v
 have hC : (w.setCell ⟨b,p,none⟩ v).heap[c.C]? = w.heap[c.C]?:=hA.block _ (Ne.symm hbC)
 refine ⟨hA.size,fun b' h1 _=>hA.block b' h1,fun _=>⟨_,(0,0),by rw [I.tb]; exact (Tj hb hp v).2.2⟩,fun ⟨cs,h1,h2⟩=>⟨cs,by rw [hC]; exact h1,h2⟩,fun i' _=>?_,fun e he=>.inr ⟨⟨b,p,none⟩,true,hes e he,.inl rfl⟩,Xl _ _ _,hA.os,hA.output⟩
 simp only [World.cell?,hC]
theorem Aoe (x : Nat) (h : x < 256) (h1 : 96 <= x) : IntKind.u8.wrap ((x : Int) - 96) = (x : Int) - 96:=by rw [IntKind.wrap_u8]; omega
theorem round (hX : ∀ w w₁,X w -> RX c Low i (· = b) w w₁ -> X w₁) {s : ByteArray} {p : Nat} {A : Array Value} (hp : p < s.size) (hA : A.size = s.size) {Stop : Goroutine -> World -> Prop} {cs : List Frame} {nn : Nat} {v1 v2 v5 v6 v7 v8 v9 v10 v11 v12 v13 v14 v15 v16 v17 v18 v19 v20 v21 v22 v23 v24 v25 : Value}
  (I : IsC c) (hbC : b ≠ c.C) (hXs : ∀ w v,X w -> X (World.setCell w ⟨b,p,none⟩ v)) (h31 : s.size < 2147483648)
  (h : ∀ v1 v2 v5 v6 v7 v8 v9 v10 v11 v12 v13 v14 v15 v16 v17 v18 v19 v20 v21 v22 v23 v24 v25 : Value,GoW Tryz.prog false (RX c Low i (· = b)) (DB c Low b i) Stop (FM X b (A.setIfInBounds p (.bool ((byt s p : Int) == 48)))) nn (G ((base 99).at ⟨#[.string s,v1,v2,sl b s.size,.int .i64 ((p + F7 s p : Nat) : Int),v5,v6,v7,v8,v9,v10,v11,v12,v13,v14,v15,v16,v17,v18,v19,v20,v21,v22,v23,v24,v25],[]⟩ [.code E5,.inLoop E5,.inBlock 0,.code I9]) cs)) :
  GoW Tryz.prog false (RX c Low i (· = b)) (DB c Low b i) Stop (FM X b A) (nn + 80) (G ((base 99).at ⟨#[.string s,v1,v2,sl b s.size,.int .i64 (p : Int),v5,v6,v7,v8,v9,v10,v11,v12,v13,v14,v15,v16,v17,v18,v19,v20,v21,v22,v23,v24,v25],[]⟩ [.code E5,.inLoop E5,.inBlock 0,.code I9]) cs):=by
 have E:=Ady hX A
 obtain ⟨L,hL⟩ : ∃ L,L = E5:=⟨_,rfl⟩
 rw [<- hL] at h ⊢
 generalize hr : I9 = rest at h ⊢
 have hbx : ∀ hp,((s[p]'hp).toNat : Int) = (byt s p : Int):=fun hp=>by simp [byt,hp]
 have c1 : (p : Int) < (s.size : Int):=by omega
 have e1:=fun w=>Aaj w s
 have e2:=fun w=>Api w s p hp
 have hL':=hL
 simp only [E5,Tryz.f99] at hL'
 rw [show (Item.code L) = Item.code _ from congrArg Item.code hL']
 repeat (first
  | refine Bj E ?_
  | refine Co E ?_
  | refine Ah E ?_
  | refine Ar E ?_
  | refine Bf E ?_
  | refine Bi E ?_
  | refine Bh E ?_
  | refine Az E ?_
  | refine Dt E ?_
  | refine A8 E rfl ?_
  | refine Bg E rfl ?_
  | (refine Bn E rfl rfl ?_; walk_nrm)
  | refine Cc E ?_
  | refine Bv E ?_
  | refine Bq E ?_
  | refine Di E ?_
  | refine A8 E (by simp [Act.eval]; omega) ?_
  | refine Bg E (by simp [Act.eval]; omega) ?_
  | (refine A9 E rfl rfl (by k_ne) (fun w hF K hK=>?_); go_simp; refine hK _ (by simp [go_sem, *]) ?_; clear hK K hF w; try w_num))
 try simp only [hbx]
 refine Ns E (v:=.bool ((byt s p : Int) == 48)) (F':=FM X b (A.setIfInBounds p (.bool ((byt s p : Int) == 48)))) rfl rfl (by k_ne) rfl rfl rfl (fun _=>by simp) (fun _=>by simp) Tryz.sizeOf4 (fun w hF=>?_) ?_
 ·obtain ⟨hu,hz,hset⟩:=Tj hF.blk (hA ▸ hp) (.bool ((byt s p : Int) == 48))
  exact ⟨hu,hz,fun es hes=>Apm I hbC hF.blk (hA ▸ hp) _ hes,⟨hXs _ _ hF.x,hset⟩⟩
 replace E:=Ady hX (A.setIfInBounds p (.bool ((byt s p : Int) == 48)))
 walk_nrm
 repeat (first
  | refine Bj E ?_
  | refine Co E ?_
  | refine Ah E ?_
  | refine Ar E ?_
  | refine Bf E ?_
  | refine Bi E ?_
  | refine Bh E ?_
  | refine Az E ?_
  | refine Dt E ?_
  | refine A8 E rfl ?_
  | refine Bg E rfl ?_
  | (refine Bn E rfl rfl ?_; walk_nrm)
  | refine Cc E ?_
  | refine Bv E ?_
  | refine Bq E ?_
  | refine Di E ?_
  | refine A8 E (by simp [Act.eval]; omega) ?_
  | refine Bg E (by simp [Act.eval]; omega) ?_
  | (refine A9 E rfl rfl (by k_ne) (fun w hF K hK=>?_); go_simp; refine hK _ (by simp [go_sem, *]) ?_; clear hK K hF w; try w_num))
 have h256:=Apt s p
 have hw3:=Aoe (byt s p) h256
 have hla : ((p + F7 s p : Nat) : Int) = (p : Int) + (F7 s p : Int):=by omega
 have hw4 : ∀ y : Int,0 <= y -> y <= 33 -> IntKind.i64.wrap ((p : Int) + y) = (p : Int) + y:=fun y h1 h2=>by rw [IntKind.wrap_i64]; omega
 refine Df E rfl rfl (by k_ne) rfl Tryz.func147 nm50 rfl ?_
 walk_nrmf Tryz.f147
 rcases Nat.lt_or_ge (byt s p) 96 with hx | hx
 ·have hn : ¬ (96 : Int) <= (byt s p : Int):=by omega
  have hl : F7 s p = 1:=by unfold F7; rw [if_neg (by omega)]
  have hw5 : IntKind.i64.wrap ((p : Int) + 1) = (p : Int) + 1:=hw4 1 (by omega) (by omega)
  repeat (first
   | refine Bj E ?_
   | refine Co E ?_
   | refine Ah E ?_
   | refine Ar E ?_
   | refine Bf E ?_
   | refine Bi E ?_
   | refine Bh E ?_
   | refine Az E ?_
   | refine Dt E ?_
   | refine A8 E rfl ?_
   | refine Bg E rfl ?_
   | (refine Bn E rfl rfl ?_; walk_nrm)
   | refine Cc E ?_
   | refine Bv E ?_
   | refine Bq E ?_
   | refine Di E ?_
   | refine A8 E (by simp [Act.eval]; omega) ?_
   | refine Bg E (by simp [Act.eval]; omega) ?_
   | (refine Dp E rfl rfl Tryz.func147 rfl ?_; walk_nrm)
   | (refine A9 E rfl rfl (by k_ne) (fun w hF K hK=>?_); go_simp; refine hK _ (by simp [go_sem, *]) ?_; clear hK K hF w; try w_num))
  rw [show (p : Int) + 1 = ((p + F7 s p : Nat) : Int) by rw [hl]; omega]
  exact Cm E (h _ _ _ _ _ _ _ _ _ _ _ _ _ _ _ _ _ _ _ _ _ _ _) (by omega)
 ·rcases Nat.lt_or_ge 127 (byt s p) with hx' | hx'
  ·have hn : (96 : Int) <= (byt s p : Int):=by omega
   have hn' : ¬ (byt s p : Int) <= 127:=by omega
   have hl : F7 s p = 1:=by unfold F7; rw [if_neg (by omega)]
   have hw5 : IntKind.i64.wrap ((p : Int) + 1) = (p : Int) + 1:=hw4 1 (by omega) (by omega)
   repeat (first
    | refine Bj E ?_
    | refine Co E ?_
    | refine Ah E ?_
    | refine Ar E ?_
    | refine Bf E ?_
    | refine Bi E ?_
    | refine Bh E ?_
    | refine Az E ?_
    | refine Dt E ?_
    | refine A8 E rfl ?_
    | refine Bg E rfl ?_
    | (refine Bn E rfl rfl ?_; walk_nrm)
    | refine Cc E ?_
    | refine Bv E ?_
    | refine Bq E ?_
    | refine Di E ?_
    | refine A8 E (by simp [Act.eval]; omega) ?_
    | refine Bg E (by simp [Act.eval]; omega) ?_
    | (refine Dp E rfl rfl Tryz.func147 rfl ?_; walk_nrm)
    | (refine A9 E rfl rfl (by k_ne) (fun w hF K hK=>?_); go_simp; refine hK _ (by simp [go_sem, *]) ?_; clear hK K hF w; try w_num))
   rw [show (p : Int) + 1 = ((p + F7 s p : Nat) : Int) by rw [hl]; omega]
   exact Cm E (h _ _ _ _ _ _ _ _ _ _ _ _ _ _ _ _ _ _ _ _ _ _ _) (by omega)
  ·have hn : (96 : Int) <= (byt s p : Int):=by omega
   have hn' : (byt s p : Int) <= 127:=by omega
   have hl : F7 s p = byt s p - 94:=by unfold F7; rw [if_pos (by omega)]
   have hw6:=hw3 hx
   have hw7 : IntKind.i64.wrap ((byt s p : Int) - 96) = (byt s p : Int) - 96:=by rw [IntKind.wrap_i64]; omega
   have hw8 : IntKind.i64.wrap ((byt s p : Int) - 96 + 2) = (byt s p : Int) - 96 + 2:=by rw [IntKind.wrap_i64]; omega
   have hw5:=hw4 ((byt s p : Int) - 96 + 2) (by omega) (by omega)
   repeat (first
    | refine Bj E ?_
    | refine Co E ?_
    | refine Ah E ?_
    | refine Ar E ?_
    | refine Bf E ?_
    | refine Bi E ?_
    | refine Bh E ?_
    | refine Az E ?_
    | refine Dt E ?_
    | refine A8 E rfl ?_
    | refine Bg E rfl ?_
    | (refine Bn E rfl rfl ?_; walk_nrm)
    | refine Cc E ?_
    | refine Bv E ?_
    | refine Bq E ?_
    | refine Di E ?_
    | refine A8 E (by simp [Act.eval]; omega) ?_
    | refine Bg E (by simp [Act.eval]; omega) ?_
    | (refine Dp E rfl rfl Tryz.func147 rfl ?_; walk_nrm)
    | (refine A9 E rfl rfl (by k_ne) (fun w hF K hK=>?_); go_simp; refine hK _ (by simp [go_sem, *]) ?_; clear hK K hF w; try w_num))
   rw [show (p : Int) + ((byt s p : Int) - 96 + 2) = ((p + F7 s p : Nat) : Int) by rw [hl]; omega]
   exact Cm E (h _ _ _ _ _ _ _ _ _ _ _ _ _ _ _ _ _ _ _ _ _ _ _) (by omega)
end
end Go.Mark
namespace Go.Mark
open Go.Conc Go.Walk Go.Phase Go.RowKit Go.Conc.Lib Go.ConcR.Gen Go.ConcN.Gen Go.Lift Go.Proofs
open Go.ConcN (WgLive Has RW DWs AtR0 PayAt)
open Go.ConcR (KK WgAt stA smA rd wr mk Payload)
section
section
variable {c : Cfg} {Low i b : Nat} {X : World -> Prop} {Stop : Goroutine -> World -> Prop} {b₀ : Frame} {a₀ : Act} {ops₀ : Array Oper} {i₀ : Nat} {rest₀ : List Nat} {k₀ : List Item} {cs : List Frame} {s : ByteArray} {nT : Nat}
theorem X4 (hX : ∀ w w₁,X w -> RX c Low i (· = b) w w₁ -> X w₁) {p : Nat} {A : Array Value} (hp : s.size <= p) {v1 v2 v5 v6 v7 v8 v9 v10 v11 v12 v13 v14 v15 v16 v17 v18 v19 v20 v21 v22 v23 v24 v25 : Value}
  (h : GoW Tryz.prog false (RX c Low i (· = b)) (DB c Low b i) Stop (FM X b A) nT (G (b₀.at (a₀.put ((ops₀[i₀]?).bind (·.dst)) (sl b s.size)) (.inRegion ops₀ rest₀ :: k₀)) cs)) :
  GoW Tryz.prog false (RX c Low i (· = b)) (DB c Low b i) Stop (FM X b A) (nT + 40) (G ((base 99).at ⟨#[.string s,v1,v2,sl b s.size,.int .i64 (p : Int),v5,v6,v7,v8,v9,v10,v11,v12,v13,v14,v15,v16,v17,v18,v19,v20,v21,v22,v23,v24,v25],[]⟩ [.code E5,.inLoop E5,.inBlock 0,.code I9]) (b₀.at a₀ (.inRegion ops₀ (i₀ :: rest₀) :: k₀) :: cs)):=by
 have E:=Ady hX A
 obtain ⟨L,hL⟩ : ∃ L,L = E5:=⟨_,rfl⟩
 rw [<- hL]
 have c1 : ¬ (p : Int) < (s.size : Int):=by omega
 have e1:=fun w=>Aaj w s
 have hL':=hL
 simp only [E5,Tryz.f99] at hL'
 rw [show (Item.code L) = Item.code _ from congrArg Item.code hL']
 simp only [I9,Tryz.f99]
 repeat (first
  | refine Bj E ?_
  | refine Ah E ?_
  | refine Ay E ?_
  | refine Bf E ?_
  | refine Bg E rfl ?_
  | refine Adg E rfl ?_
  | refine Di E ?_
  | refine Bg E (by simp [Act.eval]; omega) ?_
  | (refine A9 E rfl rfl (by k_ne) (fun w hF K hK=>?_); go_simp; refine hK _ (by simp [go_sem, *]) ?_; clear hK K hF w; try w_num))
 refine Dp E rfl rfl Tryz.func99 rfl ?_
 exact Cm E h (by omega)
theorem X5 (I : IsC c) (hbC : b ≠ c.C) (hX : ∀ w w₁,X w -> RX c Low i (· = b) w w₁ -> X w₁) (hXs : ∀ w p v,X w -> X (World.setCell w ⟨b,p,none⟩ v)) (h31 : s.size < 2147483648) :
  ∀ (k p : Nat) (A : Array Value) (v1 v2 v5 v6 v7 v8 v9 v10 v11 v12 v13 v14 v15 v16 v17 v18 v19 v20 v21 v22 v23 v24 v25 : Value),s.size - p <= k -> A.size = s.size -> GoW Tryz.prog false (RX c Low i (· = b)) (DB c Low b i) Stop (FM X b (marks s k p A)) nT (G (b₀.at (a₀.put ((ops₀[i₀]?).bind (·.dst)) (sl b s.size)) (.inRegion ops₀ rest₀ :: k₀)) cs) ->
   GoW Tryz.prog false (RX c Low i (· = b)) (DB c Low b i) Stop (FM X b A) (nT + 40 + 80 * k) (G ((base 99).at ⟨#[.string s,v1,v2,sl b s.size,.int .i64 (p : Int),v5,v6,v7,v8,v9,v10,v11,v12,v13,v14,v15,v16,v17,v18,v19,v20,v21,v22,v23,v24,v25],[]⟩ [.code E5,.inLoop E5,.inBlock 0,.code I9]) (b₀.at a₀ (.inRegion ops₀ (i₀ :: rest₀) :: k₀) :: cs))
 | 0,p,A,v1,v2,v5,v6,v7,v8,v9,v10,v11,v12,v13,v14,v15,v16,v17,v18,v19,v20,v21,v22,v23,v24,v25,hk,hA,h=>by
  exact X4 hX (by omega) h
 | k + 1,p,A,v1,v2,v5,v6,v7,v8,v9,v10,v11,v12,v13,v14,v15,v16,v17,v18,v19,v20,v21,v22,v23,v24,v25,hk,hA,h=>by
  have E:=Ady hX A
  unfold marks at h
  split at h
  ·rename_i hp
   have hl:=Aft s p
   have:=round (nn:=nT + 40 + 80 * k) hX hp hA I hbC (fun w v=>hXs w p v) h31 (Stop:=Stop) (cs:=(b₀.at a₀ (.inRegion ops₀ (i₀ :: rest₀) :: k₀) :: cs)) (v1:=v1) (v2:=v2) (v5:=v5) (v6:=v6) (v7:=v7) (v8:=v8) (v9:=v9) (v10:=v10) (v11:=v11) (v12:=v12) (v13:=v13) (v14:=v14) (v15:=v15) (v16:=v16) (v17:=v17) (v18:=v18) (v19:=v19) (v20:=v20) (v21:=v21) (v22:=v22) (v23:=v23) (v24:=v24) (v25:=v25) (fun v1 v2 v5 v6 v7 v8 v9 v10 v11 v12 v13 v14 v15 v16 v17 v18 v19 v20 v21 v22 v23 v24 v25=>X5 I hbC hX hXs h31 k (p + F7 s p) _ v1 v2 v5 v6 v7 v8 v9 v10 v11 v12 v13 v14 v15 v16 v17 v18 v19 v20 v21 v22 v23 v24 v25 (by omega) (by simpa using hA) h)
   exact Cm E this (by omega)
  ·rename_i hp
   exact Cm E (X4 hX (by omega) h) (by omega)
def zeros (n : Nat) : Array Value:=madeCells (Value.cells (.bool false)) n
theorem Aam (n : Nat) : (zeros n).size = n:=size_madeCells _ _
noncomputable def Agy : Array Oper:=match Tryz.f99.body with
 | some (.seq _ (.seq (.region _ o _) _))=>o
 | _=>#[]
noncomputable def U8 : Code:=match Tryz.f99.body with
 | some (.seq _ (.seq _ r))=>r
 | _=>.skip
theorem Aio (I : IsC c) (hbC : b ≠ c.C) (hX : ∀ w w₁,X w -> RX c Low i (· = b) w w₁ -> X w₁) (hXs : ∀ w p v,X w -> X (World.setCell w ⟨b,p,none⟩ v)) (h31 : s.size < 2147483648)
  (h : GoW Tryz.prog false (RX c Low i (· = b)) (DB c Low b i) Stop (FM X b (marks s s.size 0 (zeros s.size))) nT (G (b₀.at (a₀.put ((ops₀[i₀]?).bind (·.dst)) (sl b s.size)) (.inRegion ops₀ rest₀ :: k₀)) cs)) :
  GoW Tryz.prog false (RX c Low i (· = b)) (DB c Low b i) Stop (FM X b (zeros s.size)) (nT + 40 + 80 * s.size + 40) (G ((base 99).at ⟨#[.string s,ud,.slice none 0 0,ud,ud,.string s,.int .i64 (s.size : Int),sl b s.size,ud,ud,ud,ud,ud,ud,ud,ud,ud,ud,ud,ud,ud,ud,ud,ud,ud,ud],[]⟩ [.inRegion Agy [3],.code U8]) (b₀.at a₀ (.inRegion ops₀ (i₀ :: rest₀) :: k₀) :: cs)):=by
 have E:=Ady hX (zeros s.size)
 obtain ⟨L,hL⟩ : ∃ L,L = E5:=⟨_,rfl⟩
 obtain ⟨rest,hr⟩ : ∃ r,r = I9:=⟨_,rfl⟩
 have hL':=hL
 have hr':=hr
 simp only [E5,Tryz.f99] at hL'
 simp only [I9,Tryz.f99] at hr'
 simp only [U8,Agy,Tryz.f99]
 rw [<- hL',<- hr']
 repeat (first
  | refine Bj E ?_
  | refine Ah E ?_
  | refine Ar E ?_
  | refine Cc E ?_
  | refine Vx E ?_
  | (refine A9 E rfl rfl (by k_ne) (fun w hF K hK=>?_); go_simp; refine hK _ (by simp [go_sem, *]) ?_; clear hK K hF w; try w_num))
 rw [hL,hr]
 exact Cm E (n:=nT + 40 + 80 * s.size) (X5 I hbC hX hXs h31 s.size 0 (zeros s.size) _ _ _ _ _ _ _ _ _ _ _ _ _ _ _ _ _ _ _ _ _ _ _ (by omega) (Aam _) h) (by omega)
end
end
section
structure WK (c : Cfg) (i bm bi ba bw bf : Nat) (s : ByteArray) (w : World) : Prop where
 mv : w.heap[bm]? = some (.cells #[sl c.C c.n] 122)
 iv : w.heap[bi]? = some (.cells #[.int .i64 (i : Int)] 3)
 av : ∃ x : Array Value,w.heap[ba]? = some (.cells x 52) /\ x[6]? = some (.string s)
 wv : w.heap[bw]? = some (.cells #[pt c.Wg] 234)
 fv : w.heap[bf]? = some (.cells #[.func (.func 98) #[] #[pt ba,pt bm,pt bi]] 1)
 live : WgLive 189 c.Wg w
 pay : PayAt c.C c.n w
structure Bx (c : Cfg) (Low bm bi ba bw bf : Nat) : Prop where
 m : Box c Low bm
 i : Box c Low bi
 a : Box c Low ba
 w : Box c Low bw
 f : Box c Low bf
section
variable {c : Cfg} (I : IsC c) {Low i bm bi ba bw bf : Nat} (B : Bx c Low bm bi ba bw bf) {s : ByteArray} {w w₁ : World} {own : Nat -> Prop}
theorem WK.rely (I : IsC c) (B : Bx c Low bm bi ba bw bf) (h : WK c i bm bi ba bw bf s w) (r : RX c Low i own w w₁) : WK c i bm bi ba bw bf s w₁ :=
 ⟨Mt I B.m r h.mv (by decide),Mt I B.i r h.iv (by decide),let ⟨x,h1,h2⟩:=h.av; ⟨x,Mt I B.a r h1 (by decide),h2⟩,Mt I B.w r h.wv (by decide),Mt I B.f r h.fv (by decide),by have:=r.live; rw [I.ty] at this; exact this h.live,r.pay h.pay⟩
theorem WK.other {b : Nat} (h : WK c i bm bi ba bw bf s w) (hb : ∀ b',b' ≠ b -> ∀ o : Obj,w.heap[b']? = some o -> w₁.heap[b']? = some o) (h1 : b ≠ bm) (h2 : b ≠ bi) (h3 : b ≠ ba) (h4 : b ≠ bw) (h5 : b ≠ bf) (h6 : b ≠ c.Wg) (h7 : b ≠ c.C) : WK c i bm bi ba bw bf s w₁ :=
 ⟨hb _ (Ne.symm h1) _ h.mv,hb _ (Ne.symm h2) _ h.iv,let ⟨x,e1,e2⟩:=h.av; ⟨x,hb _ (Ne.symm h3) _ e1,e2⟩,hb _ (Ne.symm h4) _ h.wv,hb _ (Ne.symm h5) _ h.fv,
  let ⟨st,sm,e⟩:=h.live; ⟨st,sm,hb _ (Ne.symm h6) _ e⟩,let ⟨cs,e1,e2⟩:=h.pay; ⟨cs,hb _ (Ne.symm h7) _ e1,e2⟩⟩
structure Z9 (c : Cfg) (bm bi ba bw bf b : Nat) : Prop where
 m : b ≠ bm
 i : b ≠ bi
 a : b ≠ ba
 w : b ≠ bw
 f : b ≠ bf
 g : b ≠ c.Wg
 c : b ≠ c.C
theorem WK.set {b p : Nat} (N : Z9 c bm bi ba bw bf b) (v : Value) (h : WK c i bm bi ba bw bf s w) : WK c i bm bi ba bw bf s (w.setCell ⟨b,p,none⟩ v) :=
 h.other (b:=b) (fun b' hb _ ho=>((aside_setCell w ⟨b,p,none⟩ v).block b' hb).trans ho) N.m N.i N.a N.w N.f N.g N.c
theorem lt_of_heap {b : Nat} {o : Obj} (h : w.heap[b]? = some o) : b < w.heap.size:=(Array.getElem?_eq_some_iff.1 h).1
theorem WK.fresh (h : WK c i bm bi ba bw bf s w) : Z9 c bm bi ba bw bf w.heap.size:=by
 have f1:=lt_of_heap h.mv
 have f2:=lt_of_heap h.iv
 have f3:=lt_of_heap h.av.choose_spec.1
 have f4:=lt_of_heap h.wv
 have f5:=lt_of_heap h.fv
 obtain ⟨_,_,e⟩:=h.live
 have f6:=lt_of_heap e
 obtain ⟨_,e,_⟩:=h.pay
 have f7:=lt_of_heap e
 constructor <;> omega
theorem WK.alloc (h : WK c i bm bi ba bw bf s w) (o : Obj) : WK c i bm bi ba bw bf s (w.alloc o):=by
 have N:=h.fresh
 refine h.other (b:=w.heap.size) (fun b' hb o' ho=>?_) N.m N.i N.a N.w N.f N.g N.c
 have:=lt_of_heap ho
 show (w.heap.push o)[b']? = _
 rw [Array.getElem?_push_lt this]
 rw [<- ho,Array.getElem?_eq_getElem this]
theorem Apn (w : World) : DA c Low w w #[]:=⟨⟨w.drawn,rfl⟩,fun e he=>by simp at he⟩
theorem K7 (I : IsC c) (B : Bx c Low bm bi ba bw bf) : Env (RX c Low i own) (DA c Low) (WK c i bm bi ba bw bf s):=⟨fun _ _ h r=>h.rely I B r,fun w=>Apn w⟩
theorem Oe (I : IsC c) (B : Bx c Low bm bi ba bw bf) {b : Nat} (A : Array Value) : Env (RX c Low i (· = b)) (DB c Low b i) (FM (WK c i bm bi ba bw bf s) b A):=Ady (fun _ _ h r=>h.rely I B r) A
theorem Amy : Tryz.prog.info? 4 = some Tryz.t4:=by kernel_rfl
theorem Ant (I : IsC c) {o : Oper} {ev : Operand -> Value} {x : Operand} (hop : o.op = .makeSlice 132 x x) (hx : ev x = .int .i64 (s.size : Int)) (h31 : s.size < 2147483648) (w : World) :
  (execOp ev o).run Tryz.prog w = .ok (.value (sl w.heap.size s.size)) (made c w (zeros s.size)) /\ (execOp ev o).events Tryz.prog w #[] = #[]:=by
 have hr:=run_make (P:=Tryz.prog) w 132 4 Tryz.t4 (.bool false) Tryz.underlying132 Amy rfl .i64 .i64 s.size s.size (by omega) (by omega) (by simp only [Tryz.t4]; omega) (by omega)
 have he:=events_make (P:=Tryz.prog) w 132 4 Tryz.t4 (.bool false) Tryz.underlying132 Amy rfl .i64 .i64 s.size s.size (by omega) (by omega) (by simp only [Tryz.t4]; omega) (by omega) (by simp only [Tryz.t4]; omega) #[]
 simp only [Int.toNat_natCast,Tryz.t4,Nat.mul_one] at hr
 unfold execOp made zeros
 rw [I.tb]
 constructor
 ·simp only [hop,hx,Sem.run_bind,hr]
  rfl
 ·simp only [hop,hx,Sem.events_bind,hr,he]
  rfl
theorem Lp (I : IsC c) (B : Bx c Low bm bi ba bw bf) {nT : Nat} {b₀ : Frame} {a₀ : Act} {ops₀ : Array Oper} {i₀ : Nat} {rest₀ : List Nat} {k₀ : List Item} {cs : List Frame} (h31 : s.size < 2147483648)
  (hN : ∀ b,Z9 c bm bi ba bw bf b -> GoW Tryz.prog false (RX c Low i (· = b)) (DB c Low b i) (K8 c i b) (FM (WK c i bm bi ba bw bf s) b (marks s s.size 0 (zeros s.size))) nT (G (b₀.at (a₀.put ((ops₀[i₀]?).bind (·.dst)) (sl b s.size)) (.inRegion ops₀ rest₀ :: k₀)) cs)) :
  GoW Tryz.prog false (RX c Low i (fun _=>False)) (DA c Low) (Ee c Low i (nT + 40 + 80 * s.size + 40)) (WK c i bm bi ba bw bf s) 40 (G ((base 99).at ⟨#[.string s] ++ Array.replicate 25 ud,[]⟩ [.code (Tryz.f99.body.getD .skip)]) (b₀.at a₀ (.inRegion ops₀ (i₀ :: rest₀) :: k₀) :: cs)):=by
 have E:=K7 (own:=fun _=>False) (s:=s) (i:=i) I B
 have e1:=fun w=>Aaj w s
 obtain ⟨tl,htl⟩ : ∃ r,r = U8:=⟨_,rfl⟩
 have htl':=htl
 simp only [U8,Tryz.f99] at htl'
 simp only [Tryz.f99,Option.getD_some]
 rw [<- htl']
 walk_nrm
 repeat (first
  | refine Bj E ?_
  | refine Ah E ?_
  | refine Ar E ?_
  | refine Bf E ?_
  | (refine A9 E rfl rfl (by k_ne) (fun w hF K hK=>?_); go_simp; refine hK _ (by simp [go_sem, *]) ?_; clear hK K hF w; try w_num))
 refine Bp E (fun w hF=>?_)
 have N:=hF.fresh
 have M:=Aio I N.c (fun _ _ h r=>h.rely I B r) (fun w p v h=>h.set (p:=p) N v) h31 (hN _ N)
 simp only [Agy,Tryz.f99] at M
 rw [<- htl] at M
 have hm:=fun {o ev x} hop hx=>Ant (o:=o) (ev:=ev) (x:=x) I hop hx h31 w
 unfold Ee
 rw [I.P]
 refine ⟨rfl,_,zeros s.size,_,stepG_value rfl rfl (by k_ne) (hm rfl rfl).1,fun e he=>?_,M _ ⟨hF.alloc _,?_⟩⟩
 ·have he:=mem_listed he
  rw [(hm rfl rfl).2] at he
  simp at he
 ·show (w.heap.push (.cells (zeros s.size) c.tb))[w.heap.size]? = _
  rw [I.tb,Array.getElem?_push_size]
end
end
end Go.Mark
