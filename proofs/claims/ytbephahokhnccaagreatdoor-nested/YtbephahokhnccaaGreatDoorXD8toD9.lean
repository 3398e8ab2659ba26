import Derived.Test.YtbephahokhnccaaGreatDoorXD5toD7
import Derived.Conc.CompanyDraw
set_option linter.unusedSectionVars false
set_option maxRecDepth 100000
set_option maxHeartbeats 4000000
namespace Go.Mark
open Go.Conc Go.Walk Go.Phase Go.RowKit Go.Conc.Lib Go.ConcR.Gen Go.ConcN.Gen Go.Lift Go.Proofs
open Go.ConcN (WgLive Has RW DWs AtR0 PayAt)
open Go.ConcR (KK WgAt stA smA rd wr mk Payload)
section
def Ord (ops : Array Oper) (fuel : Nat) (listed : Array Bool) (l : List Nat) : Prop:=∃ t,l = Region.linearise.go .any ops fuel t listed []
theorem C9 {ops : Array Oper} {fuel : Nat} {listed : Array Bool} {l rs : List Nat} (h : Ord ops (fuel + 1) listed l) (hr : Region.ready .any ops listed = rs) (hne : rs ≠ []) : ∃ i ∈ rs,∃ l',l = i :: l' /\ Ord ops fuel (listed.setIfInBounds i true) l':=by
 obtain ⟨t,rfl⟩:=h
 subst hr
 simp only [Region.linearise.go]
 have hlt : t % (Region.ready .any ops listed).length < (Region.ready .any ops listed).length:=Nat.mod_lt _ (List.length_pos_iff.2 hne)
 refine ⟨(Region.ready .any ops listed)[t % (Region.ready .any ops listed).length],List.getElem_mem _,_,?_,t / (Region.ready .any ops listed).length,rfl⟩
 change (match (Region.ready .any ops listed)[t % (Region.ready .any ops listed).length]? with
   | some i=>Region.linearise.go .any ops fuel (t / (Region.ready .any ops listed).length) (listed.setIfInBounds i true) [i]
   | none=>[].reverse) = _
 rw [List.getElem?_eq_getElem hlt]
 simp only []
 rw [linearise_go_acc,List.reverse_singleton,List.singleton_append]
theorem Ald {ops : Array Oper} {listed : Array Bool} {l : List Nat} (h : Ord ops 0 listed l) : l = []:=by
 obtain ⟨t,rfl⟩:=h
 rfl
theorem An4 {ops : Array Oper} {n : Nat} {listed : Array Bool} (hn : ops.size = n) (hl : Array.replicate n false = listed) (t : Nat) : Ord ops n listed (Region.schedule true ops t):=by
 subst hn hl
 exact ⟨t,by simp only [Region.schedule,Bool.true_or,if_true]; rfl⟩
noncomputable def ops37 : Array Oper:=match Tryz.f98.body with
 | some (.region _ o _)=>o
 | _=>#[]
section
variable {c : Cfg} (I : IsC c) {Low i bm bi ba bw bf b : Nat} (B : Bx c Low bm bi ba bw bf) {s : ByteArray} {T47 : Array Value} {ops47 : Array Oper} {i₀ : Nat} {l : List Nat}
theorem Amf (_ : IsC c) (_ : Bx c Low bm bi ba bw bf) (hi : i < c.n) (hbC : b ≠ c.C) {w : World} (hp : PayAt c.C c.n w) (v : Value) {es : Array Event} (hes : ∀ e ∈ es,e = ⟨.cell ⟨c.C,i,none⟩,true,false⟩) :
  ((∃ u,w.cell? ⟨c.C,i,none⟩ = some u) /\ w.frozen? ⟨c.C,i,none⟩ = false) /\ DB c Low b i w (w.setCell ⟨c.C,i,none⟩ v) es /\ Has c.C i v (w.setCell ⟨c.C,i,none⟩ v) /\ ∀ b',b' ≠ c.C -> (w.setCell ⟨c.C,i,none⟩ v).heap[b']? = w.heap[b']?:=by
 have hA:=aside_setCell w ⟨c.C,i,none⟩ v
 obtain ⟨arr,h1,h2⟩:=hp
 have hb : (w.setCell ⟨c.C,i,none⟩ v).heap[c.C]? = some (.cells (arr.setIfInBounds i v) Payload.ety):=by
  rw [setCell_eq_setRow w c.C i arr _ (0,0) _ h1,setRow_heap w c.C _ _ _ _ h1]
 have hlt : i < arr.size:=by omega
 refine ⟨⟨⟨arr[i],by simp [World.cell?,h1,hlt]⟩,by simp [World.frozen?,h1]⟩,⟨hA.size,fun b' h3 h4=>hA.block b' h4,fun ⟨x,f,hx⟩=>⟨x,f,(hA.block b hbC).trans hx⟩,fun _=>⟨_,hb,by simpa using h2⟩,fun i' hi'=>?_,fun e he=>.inr ⟨⟨c.C,i,none⟩,true,hes e he,.inr rfl⟩,Xl _ _ _,hA.os,hA.output⟩,?_,fun b' hb'=>hA.block b' hb'⟩
 ·simp [World.cell?,hb,h1,Array.getElem?_setIfInBounds_ne (Ne.symm hi')]
 ·simp [Has,World.cell?,hb,hlt]
theorem Dr {w : World} {es : Array Event} (h : ∀ e ∈ es,EvR c Low w e) : DA c Low w w es:=⟨⟨w.drawn,rfl⟩,h⟩
theorem Du (I : IsC c) {w : World} {fn : FuncId} {a : Act} {o : Oper} {b' k : Nat} {x : Array Value} {e : TypeId} {f : Nat × Nat} (Bb : Box c Low b') (h : w.heap[b']? = some (.cells x e f)) (he : e ≠ 4) (hev : (execOp a.eval o).events Tryz.prog w #[] = #[⟨.cell ⟨b',k,none⟩,false,false⟩]) :
  ∀ e' ∈ listed Tryz.prog fn a o w,EvR c Low w e':=fun e' hm=>by
 have hm:=mem_listed hm
 rw [hev,Array.mem_singleton] at hm
 subst hm
 exact Ado I Bb h he
theorem Anc (I : IsC c) (B : Bx c Low bm bi ba bw bf) (hi : i < c.n) (hOut : ∀ (w : World) (b : Nat),w.heap[b]? = some (.cells (marks s s.size 0 (zeros s.size)) 4) -> w.cell? ⟨c.C,i,none⟩ = some (sl b s.size) -> c.Out i b w) (N : Z9 c bm bi ba bw bf b) (hl : Ord ops37 2 #[true,true,true,true,true,false,false] l) :
  GoW Tryz.prog false (RX c Low i (· = b)) (DB c Low b i) (K8 c i b) (FM (WK c i bm bi ba bw bf s) b (marks s s.size 0 (zeros s.size))) 140 (G ((base 98).at ⟨#[pt ba,pt bm,pt bi,sl c.C c.n,.int .i64 (i : Int),.pointer (some ⟨ba,6,none⟩),.string s,sl b s.size,ud],[]⟩ [.inRegion ops37 l]) [(baseD 144).at ⟨T47,[El 145 #[pt bw]]⟩ [.inRegion ops47 [i₀]],bot]):=by
 have E:=Oe (s:=s) (i:=i) (b:=b) I B (marks s s.size 0 (zeros s.size))
 obtain ⟨j,hj,l',rfl,hl'⟩:=C9 hl (rs:=[5]) (by kernel_rfl) (by simp)
 simp only [List.mem_cons,List.not_mem_nil,or_false] at hj
 rcases hj with rfl
 ·have c1 : (i : Int) < (c.n : Int):=by omega
  refine A9 E rfl rfl (by k_ne) (n:=139) (fun w hF K hK=>?_)
  simp only [ops37,Tryz.f98] at hK ⊢
  go_simp
  refine hK _ (by simp [go_sem, *]) ?_
  clear hK K hF w
  obtain ⟨j,hj,l2,rfl,hl2⟩:=C9 hl' (rs:=[6]) (by kernel_rfl) (by simp)
  simp only [List.mem_cons,List.not_mem_nil,or_false] at hj
  subst hj
  have e0:=Ald hl2
  subst e0
  refine Ns E (v:=sl b s.size) (F':=FT c i b bw (sl b s.size)) rfl rfl (by k_ne) rfl rfl rfl (fun _=>by simp) (fun _=>by simp) Tryz.sizeOf132 (n:=138) (fun w hF=>?_) ?_
  ·have hd:=fun es hes=>Amf (Low:=Low) (b:=b) I B hi N.c hF.x.pay (sl b s.size) (es:=es) hes
   obtain ⟨⟨hu,hz⟩,_,hh,ho⟩:=hd #[] (fun e he=>by simp at he)
   refine ⟨hu,hz,fun es hes=>(hd es hes).2.1,⟨?_,hh,(ho bw B.w.cc).trans hF.x.wv,hOut _ b ((ho b N.c).trans hF.blk) hh⟩⟩
   obtain ⟨st,sm,hl⟩:=hF.x.live
   exact ⟨st,sm,(ho c.Wg I.geo.hCW.symm).trans hl⟩
  have E':=envT (b:=b) (i:=i) (val:=sl b s.size) I B.w
  refine Ah E' ?_
  exact Cm E' (tail I B.w) (by omega)
theorem B103 (I : IsC c) (B : Bx c Low bm bi ba bw bf) (hi : i < c.n) (hOut : ∀ (w : World) (b : Nat),w.heap[b]? = some (.cells (marks s s.size 0 (zeros s.size)) 4) -> w.cell? ⟨c.C,i,none⟩ = some (sl b s.size) -> c.Out i b w) (N : Z9 c bm bi ba bw bf b) (hl : Ord ops37 3 #[true,false,true,true,true,false,false] l) :
  GoW Tryz.prog false (RX c Low i (· = b)) (DB c Low b i) (K8 c i b) (FM (WK c i bm bi ba bw bf s) b (marks s s.size 0 (zeros s.size))) 145 (G ((base 98).at ⟨#[pt ba,pt bm,pt bi,sl c.C c.n,ud,.pointer (some ⟨ba,6,none⟩),.string s,sl b s.size,ud],[]⟩ [.inRegion ops37 l]) [(baseD 144).at ⟨T47,[El 145 #[pt bw]]⟩ [.inRegion ops47 [i₀]],bot]):=by
 have E:=Oe (s:=s) (i:=i) (b:=b) I B (marks s s.size 0 (zeros s.size))
 obtain ⟨j,hj,l',rfl,hl'⟩:=C9 hl (rs:=[1]) (by kernel_rfl) (by simp)
 simp only [List.mem_cons,List.not_mem_nil,or_false] at hj
 rcases hj with rfl
 ·refine Cb E rfl rfl (by k_ne) (fun w hF=>(Au rfl rfl Tryz.sizeOf3 Tryz.isAgg3 (cell_of hF.x.iv)).1) (fun w hF=>Ld (Du I B.i hF.x.iv (by decide) (Au rfl rfl Tryz.sizeOf3 Tryz.isAgg3 (cell_of hF.x.iv)).2)) (n:=144) ?_
  exact Cm E (Anc I B hi hOut N hl') (by omega)
theorem B013 (I : IsC c) (B : Bx c Low bm bi ba bw bf) (hi : i < c.n) (hOut : ∀ (w : World) (b : Nat),w.heap[b]? = some (.cells (marks s s.size 0 (zeros s.size)) 4) -> w.cell? ⟨c.C,i,none⟩ = some (sl b s.size) -> c.Out i b w) (N : Z9 c bm bi ba bw bf b) (hl : Ord ops37 3 #[false,true,true,true,true,false,false] l) :
  GoW Tryz.prog false (RX c Low i (· = b)) (DB c Low b i) (K8 c i b) (FM (WK c i bm bi ba bw bf s) b (marks s s.size 0 (zeros s.size))) 145 (G ((base 98).at ⟨#[pt ba,pt bm,pt bi,ud,.int .i64 (i : Int),.pointer (some ⟨ba,6,none⟩),.string s,sl b s.size,ud],[]⟩ [.inRegion ops37 l]) [(baseD 144).at ⟨T47,[El 145 #[pt bw]]⟩ [.inRegion ops47 [i₀]],bot]):=by
 have E:=Oe (s:=s) (i:=i) (b:=b) I B (marks s s.size 0 (zeros s.size))
 obtain ⟨j,hj,l',rfl,hl'⟩:=C9 hl (rs:=[0]) (by kernel_rfl) (by simp)
 simp only [List.mem_cons,List.not_mem_nil,or_false] at hj
 rcases hj with rfl
 ·refine Cb E rfl rfl (by k_ne) (fun w hF=>(Au rfl rfl Tryz.sizeOf122 Tryz.isAgg122 (cell_of hF.x.mv)).1) (fun w hF=>Ld (Du I B.m hF.x.mv (by decide) (Au rfl rfl Tryz.sizeOf122 Tryz.isAgg122 (cell_of hF.x.mv)).2)) (n:=144) ?_
  exact Cm E (Anc I B hi hOut N hl') (by omega)
theorem B003 (I : IsC c) (B : Bx c Low bm bi ba bw bf) (hi : i < c.n) (hOut : ∀ (w : World) (b : Nat),w.heap[b]? = some (.cells (marks s s.size 0 (zeros s.size)) 4) -> w.cell? ⟨c.C,i,none⟩ = some (sl b s.size) -> c.Out i b w) (N : Z9 c bm bi ba bw bf b) (hl : Ord ops37 4 #[false,false,true,true,true,false,false] l) :
  GoW Tryz.prog false (RX c Low i (· = b)) (DB c Low b i) (K8 c i b) (FM (WK c i bm bi ba bw bf s) b (marks s s.size 0 (zeros s.size))) 150 (G ((base 98).at ⟨#[pt ba,pt bm,pt bi,ud,ud,.pointer (some ⟨ba,6,none⟩),.string s,sl b s.size,ud],[]⟩ [.inRegion ops37 l]) [(baseD 144).at ⟨T47,[El 145 #[pt bw]]⟩ [.inRegion ops47 [i₀]],bot]):=by
 have E:=Oe (s:=s) (i:=i) (b:=b) I B (marks s s.size 0 (zeros s.size))
 obtain ⟨j,hj,l',rfl,hl'⟩:=C9 hl (rs:=[0,1]) (by kernel_rfl) (by simp)
 simp only [List.mem_cons,List.not_mem_nil,or_false] at hj
 rcases hj with rfl | rfl
 ·refine Cb E rfl rfl (by k_ne) (fun w hF=>(Au rfl rfl Tryz.sizeOf122 Tryz.isAgg122 (cell_of hF.x.mv)).1) (fun w hF=>Ld (Du I B.m hF.x.mv (by decide) (Au rfl rfl Tryz.sizeOf122 Tryz.isAgg122 (cell_of hF.x.mv)).2)) (n:=149) ?_
  exact Cm E (B103 I B hi hOut N hl') (by omega)
 ·refine Cb E rfl rfl (by k_ne) (fun w hF=>(Au rfl rfl Tryz.sizeOf3 Tryz.isAgg3 (cell_of hF.x.iv)).1) (fun w hF=>Ld (Du I B.i hF.x.iv (by decide) (Au rfl rfl Tryz.sizeOf3 Tryz.isAgg3 (cell_of hF.x.iv)).2)) (n:=149) ?_
  exact Cm E (B013 I B hi hOut N hl') (by omega)
theorem Anf (I : IsC c) (B : Bx c Low bm bi ba bw bf) (hi : i < c.n) (h31 : s.size < 2147483648) (hOut : ∀ (w : World) (b : Nat),w.heap[b]? = some (.cells (marks s s.size 0 (zeros s.size)) 4) -> w.cell? ⟨c.C,i,none⟩ = some (sl b s.size) -> c.Out i b w) (hl : Ord ops37 3 #[true,true,true,true,false,false,false] l) :
  GoW Tryz.prog false (RX c Low i (fun _=>False)) (DA c Low) (Ee c Low i (150 + 40 + 80 * s.size + 40)) (WK c i bm bi ba bw bf s) 60 (G ((base 98).at ⟨#[pt ba,pt bm,pt bi,sl c.C c.n,.int .i64 (i : Int),.pointer (some ⟨ba,6,none⟩),.string s,ud,ud],[]⟩ [.inRegion ops37 l]) [(baseD 144).at ⟨T47,[El 145 #[pt bw]]⟩ [.inRegion ops47 [i₀]],bot]):=by
 have E:=K7 (own:=fun _=>False) (s:=s) (i:=i) I B
 obtain ⟨j,hj,l',rfl,hl'⟩:=C9 hl (rs:=[4]) (by kernel_rfl) (by simp)
 simp only [List.mem_cons,List.not_mem_nil,or_false] at hj
 rcases hj with rfl
 ·refine Df E rfl rfl (by k_ne) rfl Tryz.func99 Akc (c:=Tryz.f99.body.getD .skip) rfl (n:=59) ?_
  walk_nrm
  rw [show Tryz.f99.ntmps - 1 = 25 from rfl]
  refine Cm E (Lp I B (nT:=150) h31 (fun b N=>?_)) (by omega)
  exact Cm (Oe I B _) (Anc I B hi hOut N hl') (by omega)
theorem A102 (I : IsC c) (B : Bx c Low bm bi ba bw bf) (hi : i < c.n) (h31 : s.size < 2147483648) (hOut : ∀ (w : World) (b : Nat),w.heap[b]? = some (.cells (marks s s.size 0 (zeros s.size)) 4) -> w.cell? ⟨c.C,i,none⟩ = some (sl b s.size) -> c.Out i b w) (hl : Ord ops37 4 #[true,false,true,true,false,false,false] l) :
  GoW Tryz.prog false (RX c Low i (fun _=>False)) (DA c Low) (Ee c Low i (150 + 40 + 80 * s.size + 40)) (WK c i bm bi ba bw bf s) 62 (G ((base 98).at ⟨#[pt ba,pt bm,pt bi,sl c.C c.n,ud,.pointer (some ⟨ba,6,none⟩),.string s,ud,ud],[]⟩ [.inRegion ops37 l]) [(baseD 144).at ⟨T47,[El 145 #[pt bw]]⟩ [.inRegion ops47 [i₀]],bot]):=by
 have E:=K7 (own:=fun _=>False) (s:=s) (i:=i) I B
 obtain ⟨j,hj,l',rfl,hl'⟩:=C9 hl (rs:=[1,4]) (by kernel_rfl) (by simp)
 simp only [List.mem_cons,List.not_mem_nil,or_false] at hj
 rcases hj with rfl | rfl
 ·refine Cb E rfl rfl (by k_ne) (fun w hF=>(Au rfl rfl Tryz.sizeOf3 Tryz.isAgg3 (cell_of hF.iv)).1) (fun w hF=>Dr (Du I B.i hF.iv (by decide) (Au rfl rfl Tryz.sizeOf3 Tryz.isAgg3 (cell_of hF.iv)).2)) (n:=61) ?_
  exact Cm E (Anf I B hi h31 hOut hl') (by omega)
 ·refine Df E rfl rfl (by k_ne) rfl Tryz.func99 Akc (c:=Tryz.f99.body.getD .skip) rfl (n:=61) ?_
  walk_nrm
  rw [show Tryz.f99.ntmps - 1 = 25 from rfl]
  refine Cm E (Lp I B (nT:=150) h31 (fun b N=>?_)) (by omega)
  exact Cm (Oe I B _) (B103 I B hi hOut N hl') (by omega)
theorem A012 (I : IsC c) (B : Bx c Low bm bi ba bw bf) (hi : i < c.n) (h31 : s.size < 2147483648) (hOut : ∀ (w : World) (b : Nat),w.heap[b]? = some (.cells (marks s s.size 0 (zeros s.size)) 4) -> w.cell? ⟨c.C,i,none⟩ = some (sl b s.size) -> c.Out i b w) (hl : Ord ops37 4 #[false,true,true,true,false,false,false] l) :
  GoW Tryz.prog false (RX c Low i (fun _=>False)) (DA c Low) (Ee c Low i (150 + 40 + 80 * s.size + 40)) (WK c i bm bi ba bw bf s) 62 (G ((base 98).at ⟨#[pt ba,pt bm,pt bi,ud,.int .i64 (i : Int),.pointer (some ⟨ba,6,none⟩),.string s,ud,ud],[]⟩ [.inRegion ops37 l]) [(baseD 144).at ⟨T47,[El 145 #[pt bw]]⟩ [.inRegion ops47 [i₀]],bot]):=by
 have E:=K7 (own:=fun _=>False) (s:=s) (i:=i) I B
 obtain ⟨j,hj,l',rfl,hl'⟩:=C9 hl (rs:=[0,4]) (by kernel_rfl) (by simp)
 simp only [List.mem_cons,List.not_mem_nil,or_false] at hj
 rcases hj with rfl | rfl
 ·refine Cb E rfl rfl (by k_ne) (fun w hF=>(Au rfl rfl Tryz.sizeOf122 Tryz.isAgg122 (cell_of hF.mv)).1) (fun w hF=>Dr (Du I B.m hF.mv (by decide) (Au rfl rfl Tryz.sizeOf122 Tryz.isAgg122 (cell_of hF.mv)).2)) (n:=61) ?_
  exact Cm E (Anf I B hi h31 hOut hl') (by omega)
 ·refine Df E rfl rfl (by k_ne) rfl Tryz.func99 Akc (c:=Tryz.f99.body.getD .skip) rfl (n:=61) ?_
  walk_nrm
  rw [show Tryz.f99.ntmps - 1 = 25 from rfl]
  refine Cm E (Lp I B (nT:=150) h31 (fun b N=>?_)) (by omega)
  exact Cm (Oe I B _) (B013 I B hi hOut N hl') (by omega)
theorem A002 (I : IsC c) (B : Bx c Low bm bi ba bw bf) (hi : i < c.n) (h31 : s.size < 2147483648) (hOut : ∀ (w : World) (b : Nat),w.heap[b]? = some (.cells (marks s s.size 0 (zeros s.size)) 4) -> w.cell? ⟨c.C,i,none⟩ = some (sl b s.size) -> c.Out i b w) (hl : Ord ops37 5 #[false,false,true,true,false,false,false] l) :
  GoW Tryz.prog false (RX c Low i (fun _=>False)) (DA c Low) (Ee c Low i (150 + 40 + 80 * s.size + 40)) (WK c i bm bi ba bw bf s) 64 (G ((base 98).at ⟨#[pt ba,pt bm,pt bi,ud,ud,.pointer (some ⟨ba,6,none⟩),.string s,ud,ud],[]⟩ [.inRegion ops37 l]) [(baseD 144).at ⟨T47,[El 145 #[pt bw]]⟩ [.inRegion ops47 [i₀]],bot]):=by
 have E:=K7 (own:=fun _=>False) (s:=s) (i:=i) I B
 obtain ⟨j,hj,l',rfl,hl'⟩:=C9 hl (rs:=[0,1,4]) (by kernel_rfl) (by simp)
 simp only [List.mem_cons,List.not_mem_nil,or_false] at hj
 rcases hj with rfl | rfl | rfl
 ·refine Cb E rfl rfl (by k_ne) (fun w hF=>(Au rfl rfl Tryz.sizeOf122 Tryz.isAgg122 (cell_of hF.mv)).1) (fun w hF=>Dr (Du I B.m hF.mv (by decide) (Au rfl rfl Tryz.sizeOf122 Tryz.isAgg122 (cell_of hF.mv)).2)) (n:=63) ?_
  exact Cm E (A102 I B hi h31 hOut hl') (by omega)
 ·refine Cb E rfl rfl (by k_ne) (fun w hF=>(Au rfl rfl Tryz.sizeOf3 Tryz.isAgg3 (cell_of hF.iv)).1) (fun w hF=>Dr (Du I B.i hF.iv (by decide) (Au rfl rfl Tryz.sizeOf3 Tryz.isAgg3 (cell_of hF.iv)).2)) (n:=63) ?_
  exact Cm E (A012 I B hi h31 hOut hl') (by omega)
 ·refine Df E rfl rfl (by k_ne) rfl Tryz.func99 Akc (c:=Tryz.f99.body.getD .skip) rfl (n:=63) ?_
  walk_nrm
  rw [show Tryz.f99.ntmps - 1 = 25 from rfl]
  refine Cm E (Lp I B (nT:=150) h31 (fun b N=>?_)) (by omega)
  exact Cm (Oe I B _) (B003 I B hi hOut N hl') (by omega)
theorem Ang (I : IsC c) (B : Bx c Low bm bi ba bw bf) (hi : i < c.n) (h31 : s.size < 2147483648) (hOut : ∀ (w : World) (b : Nat),w.heap[b]? = some (.cells (marks s s.size 0 (zeros s.size)) 4) -> w.cell? ⟨c.C,i,none⟩ = some (sl b s.size) -> c.Out i b w) (hl : Ord ops37 4 #[true,true,true,false,false,false,false] l) :
  GoW Tryz.prog false (RX c Low i (fun _=>False)) (DA c Low) (Ee c Low i (150 + 40 + 80 * s.size + 40)) (WK c i bm bi ba bw bf s) 62 (G ((base 98).at ⟨#[pt ba,pt bm,pt bi,sl c.C c.n,.int .i64 (i : Int),.pointer (some ⟨ba,6,none⟩),ud,ud,ud],[]⟩ [.inRegion ops37 l]) [(baseD 144).at ⟨T47,[El 145 #[pt bw]]⟩ [.inRegion ops47 [i₀]],bot]):=by
 have E:=K7 (own:=fun _=>False) (s:=s) (i:=i) I B
 obtain ⟨j,hj,l',rfl,hl'⟩:=C9 hl (rs:=[3]) (by kernel_rfl) (by simp)
 simp only [List.mem_cons,List.not_mem_nil,or_false] at hj
 rcases hj with rfl
 ·refine Cb E (v:=.string s) rfl rfl (by k_ne) (fun w hF=>?_) (fun w hF=>?_) (n:=61) ?_
  ·obtain ⟨x,h1,h2⟩:=hF.av
   exact (Au rfl rfl Tryz.sizeOf9 Tryz.isAgg9 (by simp [World.cell?,h1,h2])).1
  ·obtain ⟨x,h1,h2⟩:=hF.av
   exact Dr (Du I B.a h1 (by decide) (Au (v:=.string s) rfl rfl Tryz.sizeOf9 Tryz.isAgg9 (by simp [World.cell?,h1,h2])).2)
  exact Cm E (Anf I B hi h31 hOut hl') (by omega)
theorem A101 (I : IsC c) (B : Bx c Low bm bi ba bw bf) (hi : i < c.n) (h31 : s.size < 2147483648) (hOut : ∀ (w : World) (b : Nat),w.heap[b]? = some (.cells (marks s s.size 0 (zeros s.size)) 4) -> w.cell? ⟨c.C,i,none⟩ = some (sl b s.size) -> c.Out i b w) (hl : Ord ops37 5 #[true,false,true,false,false,false,false] l) :
  GoW Tryz.prog false (RX c Low i (fun _=>False)) (DA c Low) (Ee c Low i (150 + 40 + 80 * s.size + 40)) (WK c i bm bi ba bw bf s) 64 (G ((base 98).at ⟨#[pt ba,pt bm,pt bi,sl c.C c.n,ud,.pointer (some ⟨ba,6,none⟩),ud,ud,ud],[]⟩ [.inRegion ops37 l]) [(baseD 144).at ⟨T47,[El 145 #[pt bw]]⟩ [.inRegion ops47 [i₀]],bot]):=by
 have E:=K7 (own:=fun _=>False) (s:=s) (i:=i) I B
 obtain ⟨j,hj,l',rfl,hl'⟩:=C9 hl (rs:=[1,3]) (by kernel_rfl) (by simp)
 simp only [List.mem_cons,List.not_mem_nil,or_false] at hj
 rcases hj with rfl | rfl
 ·refine Cb E rfl rfl (by k_ne) (fun w hF=>(Au rfl rfl Tryz.sizeOf3 Tryz.isAgg3 (cell_of hF.iv)).1) (fun w hF=>Dr (Du I B.i hF.iv (by decide) (Au rfl rfl Tryz.sizeOf3 Tryz.isAgg3 (cell_of hF.iv)).2)) (n:=63) ?_
  exact Cm E (Ang I B hi h31 hOut hl') (by omega)
 ·refine Cb E (v:=.string s) rfl rfl (by k_ne) (fun w hF=>?_) (fun w hF=>?_) (n:=63) ?_
  ·obtain ⟨x,h1,h2⟩:=hF.av
   exact (Au rfl rfl Tryz.sizeOf9 Tryz.isAgg9 (by simp [World.cell?,h1,h2])).1
  ·obtain ⟨x,h1,h2⟩:=hF.av
   exact Dr (Du I B.a h1 (by decide) (Au (v:=.string s) rfl rfl Tryz.sizeOf9 Tryz.isAgg9 (by simp [World.cell?,h1,h2])).2)
  exact Cm E (A102 I B hi h31 hOut hl') (by omega)
theorem A011 (I : IsC c) (B : Bx c Low bm bi ba bw bf) (hi : i < c.n) (h31 : s.size < 2147483648) (hOut : ∀ (w : World) (b : Nat),w.heap[b]? = some (.cells (marks s s.size 0 (zeros s.size)) 4) -> w.cell? ⟨c.C,i,none⟩ = some (sl b s.size) -> c.Out i b w) (hl : Ord ops37 5 #[false,true,true,false,false,false,false] l) :
  GoW Tryz.prog false (RX c Low i (fun _=>False)) (DA c Low) (Ee c Low i (150 + 40 + 80 * s.size + 40)) (WK c i bm bi ba bw bf s) 64 (G ((base 98).at ⟨#[pt ba,pt bm,pt bi,ud,.int .i64 (i : Int),.pointer (some ⟨ba,6,none⟩),ud,ud,ud],[]⟩ [.inRegion ops37 l]) [(baseD 144).at ⟨T47,[El 145 #[pt bw]]⟩ [.inRegion ops47 [i₀]],bot]):=by
 have E:=K7 (own:=fun _=>False) (s:=s) (i:=i) I B
 obtain ⟨j,hj,l',rfl,hl'⟩:=C9 hl (rs:=[0,3]) (by kernel_rfl) (by simp)
 simp only [List.mem_cons,List.not_mem_nil,or_false] at hj
 rcases hj with rfl | rfl
 ·refine Cb E rfl rfl (by k_ne) (fun w hF=>(Au rfl rfl Tryz.sizeOf122 Tryz.isAgg122 (cell_of hF.mv)).1) (fun w hF=>Dr (Du I B.m hF.mv (by decide) (Au rfl rfl Tryz.sizeOf122 Tryz.isAgg122 (cell_of hF.mv)).2)) (n:=63) ?_
  exact Cm E (Ang I B hi h31 hOut hl') (by omega)
 ·refine Cb E (v:=.string s) rfl rfl (by k_ne) (fun w hF=>?_) (fun w hF=>?_) (n:=63) ?_
  ·obtain ⟨x,h1,h2⟩:=hF.av
   exact (Au rfl rfl Tryz.sizeOf9 Tryz.isAgg9 (by simp [World.cell?,h1,h2])).1
  ·obtain ⟨x,h1,h2⟩:=hF.av
   exact Dr (Du I B.a h1 (by decide) (Au (v:=.string s) rfl rfl Tryz.sizeOf9 Tryz.isAgg9 (by simp [World.cell?,h1,h2])).2)
  exact Cm E (A012 I B hi h31 hOut hl') (by omega)
theorem A001 (I : IsC c) (B : Bx c Low bm bi ba bw bf) (hi : i < c.n) (h31 : s.size < 2147483648) (hOut : ∀ (w : World) (b : Nat),w.heap[b]? = some (.cells (marks s s.size 0 (zeros s.size)) 4) -> w.cell? ⟨c.C,i,none⟩ = some (sl b s.size) -> c.Out i b w) (hl : Ord ops37 6 #[false,false,true,false,false,false,false] l) :
  GoW Tryz.prog false (RX c Low i (fun _=>False)) (DA c Low) (Ee c Low i (150 + 40 + 80 * s.size + 40)) (WK c i bm bi ba bw bf s) 66 (G ((base 98).at ⟨#[pt ba,pt bm,pt bi,ud,ud,.pointer (some ⟨ba,6,none⟩),ud,ud,ud],[]⟩ [.inRegion ops37 l]) [(baseD 144).at ⟨T47,[El 145 #[pt bw]]⟩ [.inRegion ops47 [i₀]],bot]):=by
 have E:=K7 (own:=fun _=>False) (s:=s) (i:=i) I B
 obtain ⟨j,hj,l',rfl,hl'⟩:=C9 hl (rs:=[0,1,3]) (by kernel_rfl) (by simp)
 simp only [List.mem_cons,List.not_mem_nil,or_false] at hj
 rcases hj with rfl | rfl | rfl
 ·refine Cb E rfl rfl (by k_ne) (fun w hF=>(Au rfl rfl Tryz.sizeOf122 Tryz.isAgg122 (cell_of hF.mv)).1) (fun w hF=>Dr (Du I B.m hF.mv (by decide) (Au rfl rfl Tryz.sizeOf122 Tryz.isAgg122 (cell_of hF.mv)).2)) (n:=65) ?_
  exact Cm E (A101 I B hi h31 hOut hl') (by omega)
 ·refine Cb E rfl rfl (by k_ne) (fun w hF=>(Au rfl rfl Tryz.sizeOf3 Tryz.isAgg3 (cell_of hF.iv)).1) (fun w hF=>Dr (Du I B.i hF.iv (by decide) (Au rfl rfl Tryz.sizeOf3 Tryz.isAgg3 (cell_of hF.iv)).2)) (n:=65) ?_
  exact Cm E (A011 I B hi h31 hOut hl') (by omega)
 ·refine Cb E (v:=.string s) rfl rfl (by k_ne) (fun w hF=>?_) (fun w hF=>?_) (n:=65) ?_
  ·obtain ⟨x,h1,h2⟩:=hF.av
   exact (Au rfl rfl Tryz.sizeOf9 Tryz.isAgg9 (by simp [World.cell?,h1,h2])).1
  ·obtain ⟨x,h1,h2⟩:=hF.av
   exact Dr (Du I B.a h1 (by decide) (Au (v:=.string s) rfl rfl Tryz.sizeOf9 Tryz.isAgg9 (by simp [World.cell?,h1,h2])).2)
  exact Cm E (A002 I B hi h31 hOut hl') (by omega)
theorem A110 (I : IsC c) (B : Bx c Low bm bi ba bw bf) (hi : i < c.n) (h31 : s.size < 2147483648) (hOut : ∀ (w : World) (b : Nat),w.heap[b]? = some (.cells (marks s s.size 0 (zeros s.size)) 4) -> w.cell? ⟨c.C,i,none⟩ = some (sl b s.size) -> c.Out i b w) (hl : Ord ops37 5 #[true,true,false,false,false,false,false] l) :
  GoW Tryz.prog false (RX c Low i (fun _=>False)) (DA c Low) (Ee c Low i (150 + 40 + 80 * s.size + 40)) (WK c i bm bi ba bw bf s) 64 (G ((base 98).at ⟨#[pt ba,pt bm,pt bi,sl c.C c.n,.int .i64 (i : Int),ud,ud,ud,ud],[]⟩ [.inRegion ops37 l]) [(baseD 144).at ⟨T47,[El 145 #[pt bw]]⟩ [.inRegion ops47 [i₀]],bot]):=by
 have E:=K7 (own:=fun _=>False) (s:=s) (i:=i) I B
 obtain ⟨j,hj,l',rfl,hl'⟩:=C9 hl (rs:=[2]) (by kernel_rfl) (by simp)
 simp only [List.mem_cons,List.not_mem_nil,or_false] at hj
 rcases hj with rfl
 ·refine A9 E rfl rfl (by k_ne) (n:=63) (fun w hF K hK=>?_)
  simp only [ops37,Tryz.f98] at hK ⊢
  go_simp
  refine hK _ (by simp [go_sem, *]) ?_
  exact Cm E (Ang I B hi h31 hOut hl') (by omega)
theorem A100 (I : IsC c) (B : Bx c Low bm bi ba bw bf) (hi : i < c.n) (h31 : s.size < 2147483648) (hOut : ∀ (w : World) (b : Nat),w.heap[b]? = some (.cells (marks s s.size 0 (zeros s.size)) 4) -> w.cell? ⟨c.C,i,none⟩ = some (sl b s.size) -> c.Out i b w) (hl : Ord ops37 6 #[true,false,false,false,false,false,false] l) :
  GoW Tryz.prog false (RX c Low i (fun _=>False)) (DA c Low) (Ee c Low i (150 + 40 + 80 * s.size + 40)) (WK c i bm bi ba bw bf s) 66 (G ((base 98).at ⟨#[pt ba,pt bm,pt bi,sl c.C c.n,ud,ud,ud,ud,ud],[]⟩ [.inRegion ops37 l]) [(baseD 144).at ⟨T47,[El 145 #[pt bw]]⟩ [.inRegion ops47 [i₀]],bot]):=by
 have E:=K7 (own:=fun _=>False) (s:=s) (i:=i) I B
 obtain ⟨j,hj,l',rfl,hl'⟩:=C9 hl (rs:=[1,2]) (by kernel_rfl) (by simp)
 simp only [List.mem_cons,List.not_mem_nil,or_false] at hj
 rcases hj with rfl | rfl
 ·refine Cb E rfl rfl (by k_ne) (fun w hF=>(Au rfl rfl Tryz.sizeOf3 Tryz.isAgg3 (cell_of hF.iv)).1) (fun w hF=>Dr (Du I B.i hF.iv (by decide) (Au rfl rfl Tryz.sizeOf3 Tryz.isAgg3 (cell_of hF.iv)).2)) (n:=65) ?_
  exact Cm E (A110 I B hi h31 hOut hl') (by omega)
 ·refine A9 E rfl rfl (by k_ne) (n:=65) (fun w hF K hK=>?_)
  simp only [ops37,Tryz.f98] at hK ⊢
  go_simp
  refine hK _ (by simp [go_sem, *]) ?_
  exact Cm E (A101 I B hi h31 hOut hl') (by omega)
theorem A010 (I : IsC c) (B : Bx c Low bm bi ba bw bf) (hi : i < c.n) (h31 : s.size < 2147483648) (hOut : ∀ (w : World) (b : Nat),w.heap[b]? = some (.cells (marks s s.size 0 (zeros s.size)) 4) -> w.cell? ⟨c.C,i,none⟩ = some (sl b s.size) -> c.Out i b w) (hl : Ord ops37 6 #[false,true,false,false,false,false,false] l) :
  GoW Tryz.prog false (RX c Low i (fun _=>False)) (DA c Low) (Ee c Low i (150 + 40 + 80 * s.size + 40)) (WK c i bm bi ba bw bf s) 66 (G ((base 98).at ⟨#[pt ba,pt bm,pt bi,ud,.int .i64 (i : Int),ud,ud,ud,ud],[]⟩ [.inRegion ops37 l]) [(baseD 144).at ⟨T47,[El 145 #[pt bw]]⟩ [.inRegion ops47 [i₀]],bot]):=by
 have E:=K7 (own:=fun _=>False) (s:=s) (i:=i) I B
 obtain ⟨j,hj,l',rfl,hl'⟩:=C9 hl (rs:=[0,2]) (by kernel_rfl) (by simp)
 simp only [List.mem_cons,List.not_mem_nil,or_false] at hj
 rcases hj with rfl | rfl
 ·refine Cb E rfl rfl (by k_ne) (fun w hF=>(Au rfl rfl Tryz.sizeOf122 Tryz.isAgg122 (cell_of hF.mv)).1) (fun w hF=>Dr (Du I B.m hF.mv (by decide) (Au rfl rfl Tryz.sizeOf122 Tryz.isAgg122 (cell_of hF.mv)).2)) (n:=65) ?_
  exact Cm E (A110 I B hi h31 hOut hl') (by omega)
 ·refine A9 E rfl rfl (by k_ne) (n:=65) (fun w hF K hK=>?_)
  simp only [ops37,Tryz.f98] at hK ⊢
  go_simp
  refine hK _ (by simp [go_sem, *]) ?_
  exact Cm E (A011 I B hi h31 hOut hl') (by omega)
theorem A000 (I : IsC c) (B : Bx c Low bm bi ba bw bf) (hi : i < c.n) (h31 : s.size < 2147483648) (hOut : ∀ (w : World) (b : Nat),w.heap[b]? = some (.cells (marks s s.size 0 (zeros s.size)) 4) -> w.cell? ⟨c.C,i,none⟩ = some (sl b s.size) -> c.Out i b w) (hl : Ord ops37 7 #[false,false,false,false,false,false,false] l) :
  GoW Tryz.prog false (RX c Low i (fun _=>False)) (DA c Low) (Ee c Low i (150 + 40 + 80 * s.size + 40)) (WK c i bm bi ba bw bf s) 68 (G ((base 98).at ⟨#[pt ba,pt bm,pt bi,ud,ud,ud,ud,ud,ud],[]⟩ [.inRegion ops37 l]) [(baseD 144).at ⟨T47,[El 145 #[pt bw]]⟩ [.inRegion ops47 [i₀]],bot]):=by
 have E:=K7 (own:=fun _=>False) (s:=s) (i:=i) I B
 obtain ⟨j,hj,l',rfl,hl'⟩:=C9 hl (rs:=[0,1,2]) (by kernel_rfl) (by simp)
 simp only [List.mem_cons,List.not_mem_nil,or_false] at hj
 rcases hj with rfl | rfl | rfl
 ·refine Cb E rfl rfl (by k_ne) (fun w hF=>(Au rfl rfl Tryz.sizeOf122 Tryz.isAgg122 (cell_of hF.mv)).1) (fun w hF=>Dr (Du I B.m hF.mv (by decide) (Au rfl rfl Tryz.sizeOf122 Tryz.isAgg122 (cell_of hF.mv)).2)) (n:=67) ?_
  exact Cm E (A100 I B hi h31 hOut hl') (by omega)
 ·refine Cb E rfl rfl (by k_ne) (fun w hF=>(Au rfl rfl Tryz.sizeOf3 Tryz.isAgg3 (cell_of hF.iv)).1) (fun w hF=>Dr (Du I B.i hF.iv (by decide) (Au rfl rfl Tryz.sizeOf3 Tryz.isAgg3 (cell_of hF.iv)).2)) (n:=67) ?_
  exact Cm E (A010 I B hi h31 hOut hl') (by omega)
 ·refine A9 E rfl rfl (by k_ne) (n:=67) (fun w hF K hK=>?_)
  simp only [ops37,Tryz.f98] at hK ⊢
  go_simp
  refine hK _ (by simp [go_sem, *]) ?_
  exact Cm E (A001 I B hi h31 hOut hl') (by omega)
end
end
section
section
variable {c : Cfg} (I : IsC c) {Low i bm bi ba bw bf b : Nat} (B : Bx c Low bm bi ba bw bf) {s : ByteArray} {w : World}
theorem follows : Tryz.prog.follows .mixedOrders = true:=by kernel_rfl
theorem Agf (bw bf : Nat) (w : World) : stepG Tryz.prog false (born Tryz.prog (El 144 #[pt bw,pt bf])) w = .go (G ((baseD 144).at ⟨#[pt bw,pt bf,ud,ud,ud],[]⟩ [.code (Tryz.f144.body.getD .skip)]) [bot]) w #[]:=by
 simp [born,El,stepG,unwind,callDeferred,invoke,callFunc,Tryz.func144,Tryz.f144,seen,GStep.after,G,Frame.enter,Frame.at,baseD,bot]
theorem Am1 (w : World) (f : FuncId) (x : Array Value) : (Instr.makeFunc (.func f) #[] x).events Tryz.prog w #[] = #[]:=by
 unfold Instr.makeFunc
 simp [go_sem]
theorem Aii : Tryz.f98.body = some (.region 0 ops37 true):=rfl
theorem Aa3 : ops37.size = 7:=rfl
theorem works (I : IsC c) (B : Bx c Low bm bi ba bw bf) (hi : i < c.n) (h31 : s.size < 2147483648) (hOut : ∀ (w : World) (b : Nat),w.heap[b]? = some (.cells (marks s s.size 0 (zeros s.size)) 4) -> w.cell? ⟨c.C,i,none⟩ = some (sl b s.size) -> c.Out i b w) (hK : WK c i bm bi ba bw bf s w) : Works c i Low (born c.P (El 144 #[pt bw,pt bf])) w:=by
 unfold Works
 rw [I.P]
 refine ⟨101,150 + 40 + 80 * s.size + 40,?_⟩
 have E:=K7 (own:=fun _=>False) (s:=s) (i:=i) I B
 have e3:=Am1
 refine C8 E (n:=100) rfl (fun w _=>Agf bw bf w) ?_ w hK
 simp only [Tryz.f144,Option.getD_some]
 repeat (first
  | refine Bj E ?_
  | refine Ah E ?_
  | refine Ay E ?_
  | (refine Xb E rfl rfl (by k_ne) rfl rfl ?_; walk_nrm)
  | (refine Cb E rfl rfl (by k_ne) (fun w hF=>(Au rfl rfl Tryz.sizeOf1 Tryz.isAgg1 (cell_of hF.fv)).1) (fun w hF=>Dr (Du I B.f hF.fv (by decide) (Au rfl rfl Tryz.sizeOf1 Tryz.isAgg1 (cell_of hF.fv)).2)) ?_; walk_nrm)
  | (refine A9 E rfl rfl (by k_ne) (fun w hF K hK=>?_); go_simp; refine hK _ (by simp [go_sem, *]) ?_; clear hK K hF w; try w_num))
 refine Zo E rfl rfl (by k_ne) rfl rfl Tryz.func98 nm37 Aii ?_
 walk_nrm
 rw [show Tryz.f98.ntmps - 3 = 6 from rfl]
 walk_nrm
 refine fun w' hF=>Goes.step rfl fun w₁ h₁=>?_
 have hF1:=E.cl _ _ hF h₁
 rw [stepG_region_draw,follows]
 refine ⟨⟨⟨w₁.drawn + 1,rfl⟩,fun e he=>by simp at he⟩,?_⟩
 exact Cm E (A000 I B hi h31 hOut (An4 Aa3 rfl _)) (by omega) _ ⟨hF1.mv,hF1.iv,hF1.av,hF1.wv,hF1.fv,hF1.live,hF1.pay⟩
end
end
end Go.Mark
