import Derived.Test.YtbephahokhnccaaGreatDoorXL26toL29
set_option linter.unusedSectionVars false
set_option maxRecDepth 100000
set_option maxHeartbeats 4000000
namespace Go.Mark
open Go.RowKit Go.Proofs
variable [BaseB]
theorem Am2 {W : World} {l m dmb p1 p2 p3 n pw : Nat} {cr : Int} {a1 a2 a3 w2 w3 o2 o3 : Ac} {a d li ni : Addr} {wl : Prop} {self : Int} {ex : List Nat} (h : LG W l m ⟨dmb,[]⟩ cr [(1,p1,a1),(2,p2,a2),(3,p3,a3)] []) (gb : Gb W a d li ni) (hb1 : BaseB.b1 <= W.heap.size) (hne : p1 ≠ p2 /\ p1 ≠ p3 /\ p2 ≠ p3) (hbal : a1.bal = 1000000) (hno : a1.nonce = 0) (hsl : a1.sl = []) (hex : ∀ k ∈ ex,k < W.heap.size /\ BaseB.b0 <= k) {Jw Jo : List Value -> List Value} (hJw : ∀ J,J.length < 100 -> (Jw J).length < 400 /\ (Jo J).length < 400)
  (hmain : ∀ w V mc f b1 J data bl,J.length < 90 -> w.heap[f]? = ob (frC (fr ⟨mc,bl,((0 : Nat) : Int),0,a2.code,a2.mark,2,1,0,data,179000,0,0⟩ 179000 ((0 : Nat) : Int)) ⟨none,0,0⟩) 225 -> BaseB.b0 <= f -> BaseB.b0 <= mc -> Md (f :: l :: p1 :: p2 :: mc :: ex) V w mc l m ⟨dmb,[]⟩ cr [(1,p1,b1),(2,p2,a2),(3,p3,a3)] J ⟨none,0,0⟩ 0 (0 + 1) 0 [] a d li ni -> Stk w ⟨none,0,0⟩ [] -> Rn f (R7 (f :: l :: p1 :: p2 :: mc :: ex) V mc l m ⟨dmb,[]⟩ cr 0 (0 + 1) a d li ni wl self [(1,p1,b1),(2,p2,w2),(3,p3,w3)] (Jw J) [(1,p1,b1),(2,p2,o2),(3,p3,o3)] (Jo J)) n w)
  (hpo : W.heap[pw]? = ob #[pq l 0] 87) (hpx : pw ∉ ex) :
  Calls TryQ.prog 15 #[pq pw 0,.agg (Bl 1 2 0 0 ((200000 : Nat) : Int) ((1 : Nat) : Int) 1)] W fun e w'=>∃ (r : Rs) (lv : SV),e = .returned (.tuple #[.agg (Dl r.good r.k r.s lv),.nilIface]) /\ (Z7 l m ⟨dmb,[]⟩ cr p1 p2 p3 wl self w2 w3 o2 o3 r w' /\ Pres (l :: p1 :: p2 :: dmb :: ex) [262,41,95] W w') /\ LgAt W.heap.size lv r.N r.xs w':=by
 have hln:=h.cell0.1
 have hn1 : p1 < W.heap.size:=Aa (h.acc (1,p1,a1) (by simp))
 have hn2 : p2 < W.heap.size:=Aa (h.acc (2,p2,a2) (by simp))
 have hdn : dmb < W.heap.size:=h.dmap.lt
 refine do15 (S5:=fun r w=>Z7 l m ⟨dmb,[]⟩ cr p1 p2 p3 wl self w2 w3 o2 o3 r w /\ Pres (l :: p1 :: p2 :: dmb :: ex) [262,41,95] W w) (by rw [Ad hpo 0]; rfl) (Aa hpo) (fun w hb=>?_) (fun r w w' rb c h5 hrb hc hpp=>⟨⟨h5.1.1,h5.1.2.imp (fun ⟨c1,c2,c3,x1,J,hL,hx⟩=>⟨c1,c2,c3,x1,J,hL.keep1 hpp hc (by simp) (by decide),hx⟩) (fun ⟨c1,c2,c3,x1,J,hL,hx⟩=>⟨c1,c2,c3,x1,J,hL.keep1 hpp hc (by simp) (by decide),hx⟩)⟩,h5.2.thenx (hpp.mono (fun k _ hk=>hk) (fun t ht=>by cases ht)) (fun k hk=>by simp at hk; subst hk; exact .inr hrb)⟩)
 refine (Arw (h.below hb) (gb.below hb) (Nat.le_trans hb1 hb.size) hne hbal hno hsl (fun k hk=>⟨Nat.lt_of_lt_of_le (hex k hk).1 hb.size,(hex k hk).2⟩) hJw hmain).mono ?_
 rintro e w' ⟨r,lv,rfl,⟨h1,h2⟩,hlv⟩
 refine ⟨r,lv,rfl,⟨h1,(Pres.of_below hb _ _).trans h2⟩,hlv.mono hb.size,h2.size,Kp.pres h2 (fun k hk=>by
  simp only [List.mem_cons] at hk
  rcases hk with rfl | rfl | rfl | rfl | hk
  ·exact hln
  ·exact hn1
  ·exact hn2
  ·exact hdn
  ·exact (hex k hk).1) (by decide) (by decide),?_⟩
 have how:=bk hb hpo
 obtain ⟨jv,hl,_⟩:=h.lj.ex
 obtain ⟨clock,hd⟩:=Jm h.dmap
 have ho' : w'.heap[pw]? = _:=h2.obj how (by show (87 : Nat) ∉ [262,41,95]; decide) (by
  simp only [List.mem_cons,not_or]
  exact ⟨Bc hpo hl (by decide),Bc hpo (h.acc (1,p1,a1) (by simp)) (by decide),Bc hpo (h.acc (2,p2,a2) (by simp)) (by decide),Ci hpo hd (fun e=>by cases e),hpx⟩)
 simp only [World.cell?,ho',hpo]
theorem Arf {l m dmb p1 p2 p3 : Nat} {cr : Int} {a2 a3 : Ac} {a d li ni : Addr} (hne : p1 ≠ p2 /\ p1 ≠ p3 /\ p2 ≠ p3) {v gc y : Nat} {X gas : Int} {vb gh gl last : UInt8} (ht : a2.code.data = cdM vb gh gl) (hvb : vb.toNat = v) (hgb : gh.toNat * 256 + gl.toNat = gc) (hv : v < 100) (hgc : gc < 60000) (hX : (v = 0 /\ X = 0) \/ (v ≠ 0 /\ X = 9000)) (hgas : (v = 0 /\ gas = (gc : Int)) \/ (v ≠ 0 /\ gas = (gc : Int) + 2300)) (hy : (a2.bal + M - v) % M = y) (hb3 : a3.bal = 0) (hcode : a3.code.data = cdC last) (hl : last = 0 \/ last = 255) (hs2 : a2.sl = []) (hs3 : a3.sl = [])
  (w V : World) (mc f : Nat) (b1 : Ac) (J : List Value) (data : SV) (bl : Int) (hJ : J.length < 90) (hf : w.heap[f]? = ob (frC (fr ⟨mc,bl,((0 : Nat) : Int),0,a2.code,a2.mark,2,1,0,data,179000,0,0⟩ 179000 ((0 : Nat) : Int)) ⟨none,0,0⟩) 225) (hfl : BaseB.b0 <= f) (hml : BaseB.b0 <= mc) (hM : Md (f :: l :: p1 :: p2 :: mc :: [p3,a2.ms,a3.ms]) V w mc l m ⟨dmb,[]⟩ cr [(1,p1,b1),(2,p2,a2),(3,p3,a3)] J ⟨none,0,0⟩ 0 (0 + 1) 0 [] a d li ni) (hS : Stk w ⟨none,0,0⟩ []) :
  Rn f (R7 (f :: l :: p1 :: p2 :: mc :: [p3,a2.ms,a3.ms]) V mc l m ⟨dmb,[]⟩ cr 0 (0 + 1) a d li ni (v <= a2.bal /\ 20390 <= gas /\ last = 0) 3 [(1,p1,b1),(2,p2,{ a2 with bal:=y,sl:=[(5,2)] }),(3,p3,{ a3 with bal:=v,sl:=[(1,9)] })] (J1 (J ++ (Rs2 (2,p2,a2) (3,p3,a3)).reverse) (pb (3,p3,a3) v) ++ [D7 p2 5 0]) [(1,p1,b1),(2,p2,{ a2 with sl:=[(5,1)] }),(3,p3,a3)] (J ++ [D7 p2 5 0])) 13 w:=by
 have hz : (a3.bal + v) % M = v:=by rw [hb3,Nat.zero_add]; exact Nat.mod_eq_of_lt (Nat.lt_trans hv (by decide))
 have hm:=Aeu (B:=f :: l :: p1 :: p2 :: mc :: [p3,a2.ms,a3.ms]) (q:=(2,p2,a2)) (pp:=(3,p3,a3)) (vb:=vb) (gh:=gh) (gl:=gl) hM rfl (by simp) (by simp) ⟨hfl,hml⟩ hf hS ht hvb hgb rfl hv hgc hX hgas (by simp) rfl (by simp) rfl hne.2.2 hy hz hcode hl hs3 hs2 (by omega) (by decide)
 have e1 : O7 (L1 (Lb [(1,p1,b1),(2,p2,a2),(3,p3,a3)] (2,p2,a2) (3,p3,a3) y v) (pb (3,p3,a3) v)) (pb (2,p2,a2) y) 2 = [(1,p1,b1),(2,p2,{ a2 with bal:=y,sl:=[(5,2)] }),(3,p3,{ a3 with bal:=v,sl:=[(1,9)] })]:=by
  simp only [O7,L1,Lb,pb,Ach hne,Aqu hne,hs2,hs3,D9]
 have e2 : O7 [(1,p1,b1),(2,p2,a2),(3,p3,a3)] (2,p2,a2) 1 = [(1,p1,b1),(2,p2,{ a2 with sl:=[(5,1)] }),(3,p3,a3)]:=by
  simp only [O7,Ach hne,hs2,D9]
 rw [e1,e2] at hm
 exact hm
theorem Ard {l m dmb p1 p2 p3 : Nat} {cr : Int} {a2 a3 : Ac} {a d li ni : Addr} (hne : p1 ≠ p2 /\ p1 ≠ p3 /\ p2 ≠ p3) {gc : Nat} {gh gl last : UInt8} (ht : a2.code.data = cdL gh gl) (hgb : gh.toNat * 256 + gl.toNat = gc) (hgc : gc < 60000) (hcode : a3.code.data = cdC last) (hl : last = 0 \/ last = 255) (hs2 : a2.sl = [])
  (w V : World) (mc f : Nat) (b1 : Ac) (J : List Value) (data : SV) (bl : Int) (hJ : J.length < 90) (hf : w.heap[f]? = ob (frC (fr ⟨mc,bl,((0 : Nat) : Int),0,a2.code,a2.mark,2,1,0,data,179000,0,0⟩ 179000 ((0 : Nat) : Int)) ⟨none,0,0⟩) 225) (hfl : BaseB.b0 <= f) (hml : BaseB.b0 <= mc) (hM : Md (f :: l :: p1 :: p2 :: mc :: [p3,a2.ms,a3.ms]) V w mc l m ⟨dmb,[]⟩ cr [(1,p1,b1),(2,p2,a2),(3,p3,a3)] J ⟨none,0,0⟩ 0 (0 + 1) 0 [] a d li ni) (hS : Stk w ⟨none,0,0⟩ []) :
  Rn f (R7 (f :: l :: p1 :: p2 :: mc :: [p3,a2.ms,a3.ms]) V mc l m ⟨dmb,[]⟩ cr 0 (0 + 1) a d li ni (20390 <= (gc : Int) /\ last = 0) 2 [(1,p1,b1),(2,p2,{ a2 with sl:=D9 5 2 [(1,9)] }),(3,p3,a3)] (J1 J (2,p2,a2) ++ [D7 p2 5 0]) [(1,p1,b1),(2,p2,{ a2 with sl:=[(5,1)] }),(3,p3,a3)] (J ++ [D7 p2 5 0])) 12 w:=by
 have hm:=Aet (B:=f :: l :: p1 :: p2 :: mc :: [p3,a2.ms,a3.ms]) (q:=(2,p2,a2)) (pp:=(3,p3,a3)) (gh:=gh) (gl:=gl) hM rfl (by simp) ⟨hfl,hml⟩ hf hS ht hgb rfl hgc (by simp) rfl (by simp) rfl hcode hl hs2 (by omega) (by decide)
 have e1 : O7 (L1 [(1,p1,b1),(2,p2,a2),(3,p3,a3)] (2,p2,a2)) (2,p2,{ a2 with sl:=D9 1 9 a2.sl }) 2 = [(1,p1,b1),(2,p2,{ a2 with sl:=D9 5 2 [(1,9)] }),(3,p3,a3)]:=by
  simp only [O7,L1,Ach hne,hs2]
  rfl
 have e2 : O7 [(1,p1,b1),(2,p2,a2),(3,p3,a3)] (2,p2,a2) 1 = [(1,p1,b1),(2,p2,{ a2 with sl:=[(5,1)] }),(3,p3,a3)]:=by
  simp only [O7,Ach hne,hs2,D9]
 rw [e1,e2] at hm
 exact hm
def SlOk (w : World) (sv : SV) (ss : List (Nat × Nat)) : Prop:=sv.n = ss.length /\ (ss ≠ [] -> ∃ b cap cur,sv = ⟨some ⟨b,0,none⟩,ss.length,cap⟩ /\ w.heap[b]? = ob cur 72 /\ ss.length <= cap /\ ∀ (i : Nat) v,(Dq ss)[i]? = some v -> cur[i]? = some v)
theorem SlOk.below {w w' : World} {sv : SV} {ss : List (Nat × Nat)} (h : SlOk w sv ss) (hb : Below w.heap.size w w') : SlOk w' sv ss:=⟨h.1,fun hs=>let ⟨b,cap,cur,h1,h2,h3⟩:=h.2 hs; ⟨b,cap,cur,h1,(hb.block _ (Aa h2)).trans h2,h3⟩⟩
theorem Ac0 {w : World} {B : Nat} {sv : SV} {ss : List (Nat × Nat)} (h : w.ownsRow B 72 8 (.slice sv.a sv.n sv.c) ss.length (Dq ss)) : SlOk w sv ss:=by
 rcases h.2 with ⟨h1,h2⟩ | ⟨g,cap,cur,h1,_,hg,hnc,_,hcs,ht⟩
 ·simp only [Value.slice.injEq] at h1
  refine ⟨by rw [h1.2.1,h2],fun hs=>absurd (List.eq_nil_of_length_eq_zero h2) hs⟩
 ·simp only [Value.slice.injEq] at h1
  obtain ⟨e1,e2,e3⟩:=h1
  refine ⟨e2,fun _=>⟨g,cap,cur,?_,hg,hnc,fun i v hv=>?_⟩⟩
  ·obtain ⟨x1,x2,x3⟩:=sv
   simp only at e1 e2 e3
   rw [e1,e2,e3]
  ·rw [<- ht,List.getElem?_take] at hv
   split at hv
   ·rw [<- Array.getElem?_toList]; exact hv
   ·cases hv
theorem accN {W : World} {l m p1 p2 p3 pw : Nat} {dm : Dm} {cr : Int} {b2 b3 : Ac} (h : Ad0 l m dm cr p1 p2 p3 b2 b3 W) (hpw : W.cell? ⟨pw,0,none⟩ = some (pq l 0)) (h2 : b2.sl.length < 1000) (h3 : b3.sl.length < 1000) :
  Calls TryQ.prog 17 #[pq pw 0] W fun e w'=>∃ g cap cur s2 s3,e = .returned (.slice (some ⟨g,0,none⟩) 3 cap) /\ Below W.heap.size W w' /\ w'.heap[g]? = ob cur 52 /\ 3 <= cap /\
   (∀ i,i < 4 -> cur[9 + i]? = some (.int .u64 (lim b2.bal i)) /\ cur[17 + i]? = some (.int .u64 (lim b3.bal i))) /\ (cur[8]? = some (.int .i64 2) /\ cur[16]? = some (.int .i64 3)) /\ (cur[15]? = some (.slice s2.a s2.n s2.c) /\ cur[23]? = some (.slice s3.a s3.n s3.c)) /\ SlOk w' s2 (srt (fun q=>(q.1 : Int)) b2.sl) /\ SlOk w' s3 (srt (fun q=>(q.1 : Int)) b3.sl):=by
 obtain ⟨a1,J,hL,hs1⟩:=h
 have hLe:=hL.ledger (fun q hq=>by simp at hq; rcases hq with rfl | rfl | rfl <;> simp) (fun q hq=>by simp at hq; rcases hq with rfl | rfl | rfl <;> simp [hs1] <;> omega) (by simp)
 refine (Re _ pw l W hpw hLe).mono ?_
 rintro e w' ⟨v,os,rfl,hb,hl,hos⟩
 have e1 : told (([(1,p1,a1),(2,p2,b2),(3,p3,b3)].map fun q : Int × Nat × Ac=>(R6 q,q.2.1)).map (·.1)) = [sK (R6 (1,p1,a1)),sK (R6 (2,p2,b2)),sK (R6 (3,p3,b3))]:=by
  simp [told,srt,U0,sK,R6]
 rw [e1] at hos
 obtain ⟨o1,o2,o3,rfl⟩ : ∃ o1 o2 o3,os = [o1,o2,o3]:=by
  have hlen:=congrArg List.length hos
  simp at hlen
  match os,hlen with
  | [o1,o2,o3],_=>exact ⟨o1,o2,o3,rfl⟩
 simp only [List.map_cons,List.map_nil,List.cons.injEq,and_true] at hos
 obtain ⟨ho1,ho2,ho3⟩:=hos
 rcases hl.own.2 with ⟨_,h2⟩ | ⟨g,cap,cur,h1,_,hg,hnc,_,hcs,ht⟩
 ·simp at h2
 ·simp only [Value.slice.injEq] at h1
  obtain ⟨h1,h2,h3⟩:=h1
  have hcell : ∀ i v,i < 24 -> (Ez [o1,o2,o3])[i]? = some v -> cur[i]? = some v:=fun i v hi hv=>by
   rw [<- ht,List.getElem?_take_of_lt (by simpa using hi),Array.getElem?_toList] at hv
   exact hv
  have hf : Ez [o1,o2,o3] = Am o1.1 o1.2 ++ (Am o2.1 o2.2 ++ (Am o3.1 o3.2 ++ [])):=rfl
  have k2:=Ac0 (hl.sl o2 (by simp))
  have k3:=Ac0 (hl.sl o3 (by simp))
  rw [ho2] at k2
  rw [ho3] at k3
  rw [hf,ho1,ho2,ho3] at hcell
  simp only [Am] at hcell
  refine ⟨g,cap,cur,o2.2,o3.2,?_,hb,hg,by simpa using hnc,fun i hi=>?_,⟨hcell 8 _ (by omega) rfl,hcell 16 _ (by omega) rfl⟩,⟨hcell 15 _ (by omega) rfl,hcell 23 _ (by omega) rfl⟩,k2,k3⟩
  ·rw [h1,h2,h3]; rfl
  ·rcases (by omega : i = 0 \/ i = 1 \/ i = 2 \/ i = 3) with rfl | rfl | rfl | rfl <;> exact ⟨hcell _ _ (by omega) rfl,hcell _ _ (by omega) rfl⟩
end Go.Mark
