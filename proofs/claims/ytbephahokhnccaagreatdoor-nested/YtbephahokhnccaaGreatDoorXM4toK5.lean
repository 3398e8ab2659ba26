import Derived.Test.YtbephahokhnccaaGreatDoorXF11toK0
set_option linter.unusedSectionVars false
set_option maxRecDepth 100000
set_option maxHeartbeats 4000000
namespace Go.Mark
open Go.RowKit Go.Proofs
def pu (n : Nat) : ByteArray:=⟨#[98,UInt8.ofNat (n / 65536),UInt8.ofNat (n / 256),UInt8.ofNat n]⟩
theorem Cf (n : Nat) (hn : n < 16777216) (W : World) : Calls TryQ.prog 26 #[.int .i64 (n : Int)] W fun e w'=>e = .returned (.string (pu n)) /\ Below W.heap.size W w':=by
 have hcb:=run_convert_bytes_back (P:=TryQ.prog) (W.alloc (.cells #[.int .u8 98,.int .u8 ((n : Int) / 65536),.int .u8 ((n : Int) / 256 % 256),.int .u8 ((n : Int) % 256)] 5)) 31 9 5 ⟨W.heap.size,0,none⟩ 4 [98,UInt8.ofNat (n / 65536),UInt8.ofNat (n / 256),UInt8.ofNat n] ((Ab 31).trans Tryz.underlying31) ((Ab 5).trans Tryz.underlying5) ((Ab 9).trans Tryz.underlying9) (fun j hj=>by
  have : j = 0 \/ j = 1 \/ j = 2 \/ j = 3:=by simp at hj; omega
  rcases this with rfl | rfl | rfl | rfl <;> simp [Addr.add] <;> omega)
 simp only [List.length_cons,List.length_nil,Nat.zero_add] at hcb
 go_enter TryQ.func26,Tryz.ntmps26
 go_wp2
 simp [bodyPost,results,Tryz.results26,go_sem,pu]
 exact ba
end Go.Mark
namespace Go.Mark
open Go.RowKit Go.Shelf Go.Proofs
attribute [local go_sem] wd
theorem Aqr (x y b : Int) (hx : 0 <= x) (hy : 0 <= y) (hy' : y < 18446744073709551616) (hb0 : 0 <= b) (hb : b <= 1) (w : World) : (callFunc 132 #[.int .u64 x,.int .u64 y,.int .u64 b]).run TryQ.prog w =
  .ok (.value (.tuple #[.int .u64 ((x - y - b) % 18446744073709551616),.int .u64 (if x < y + b then 1 else 0)])) w:=by
 obtain ⟨x,rfl⟩:=Int.eq_ofNat_of_zero_le hx
 obtain ⟨y,rfl⟩:=Int.eq_ofNat_of_zero_le hy
 obtain ⟨b,rfl⟩:=Int.eq_ofNat_of_zero_le hb0
 have e1 : (((x + 18446744073709551616 - y - b) % 18446744073709551616 : Nat) : Int) = ((x : Int) - y - b) % 18446744073709551616:=by omega
 have e2 : ((if x < y + b then 1 else 0 : Nat) : Int) = if (x : Int) < y + b then 1 else 0:=by split <;> split <;> omega
 rw [<- e1,<- e2]
 rw [run_callFunc_extern TryQ.func132 (by kernel_rfl) (by kernel_rfl) (by kernel_rfl) (e:=sub64Entry) (by kernel_rfl),run_sub64 x y b (by omega)]
 rfl
theorem U9 (x y c : Int) (hx : 0 <= x) (hy : 0 <= y) (hy' : y < 18446744073709551616) (hc0 : 0 <= c) (hc : c <= 1) : ∀ w,(callFunc 132 #[.int .u64 x,.int .u64 y,.int .u64 c]).run TryQ.prog w =
  .ok (.value (.tuple #[.int .u64 (sL x y c),.int .u64 (sH x y c)])) w:=fun w=>Aqr x y c hx hy hy' hc0 hc w
theorem add (a b : Nat) (ha : a < M) (hb : b < M) (w : World) :
  Calls TryQ.prog 106 #[wd a,wd b] w fun e w'=>e = .returned (wd ((a + b) % M)) /\ Below w.heap.size w w':=by
 go_enter TryQ.func106,Tryz.ntmps106
 go_wp2_with fail
 refine (sum a b ha hb _).mono ?_
 rintro e w1 ⟨rfl,hb1⟩
 obtain ⟨hc,hf⟩:=Am3 hb1
 have hz : w.heap.size + 1 + 1 < w1.heap.size:=by have:=hb1.size; simp at this; omega
 have hB : Below w.heap.size w w1:=(Ahn w _ _ _).trans (hb1.mono (Ahn w _ _ _).size)
 go_wp2
 simp [bodyPost,results,Tryz.results106,go_sem,hc,hz]
 exact ((((hB.setCell (by dsimp only; omega) _).setCell (by dsimp only; omega) _).setCell (by dsimp only; omega) _).setCell (by dsimp only; omega) _).alloc (by simp; omega) _
theorem Aqq (a0 a1 a2 a3 b0 b1 b2 b3 : Int) (w : World)
  (p0 : 0 <= a0) (p1 : 0 <= a1) (p2 : 0 <= a2) (p3 : 0 <= a3) (q0 : 0 <= b0) (q1 : 0 <= b1) (q2 : 0 <= b2) (q3 : 0 <= b3)
  (v0 : b0 < 18446744073709551616) (v1 : b1 < 18446744073709551616) (v2 : b2 < 18446744073709551616) (v3 : b3 < 18446744073709551616) :
  Calls TryQ.prog 89 #[.agg #[.int .u64 a0,.int .u64 a1,.int .u64 a2,.int .u64 a3],.agg #[.int .u64 b0,.int .u64 b1,.int .u64 b2,.int .u64 b3]] w fun e w' =>
   e = .returned (.agg #[.int .u64 (sL a0 b0 0),.int .u64 (sL a1 b1 (sH a0 b0 0)),.int .u64 (sL a2 b2 (sH a1 b1 (sH a0 b0 0))),.int .u64 (sL a3 b3 (sH a2 b2 (sH a1 b1 (sH a0 b0 0))))]) /\ Below w.heap.size w w':=by
 have f0:=U9 a0 b0 0 p0 q0 v0 (Int.le_refl 0) (by decide)
 have f1:=U9 a1 b1 _ p1 q1 v1 (sH0 a0 b0 0) (sH1 a0 b0 0)
 have f2:=U9 a2 b2 _ p2 q2 v2 (sH0 a1 b1 (sH a0 b0 0)) (sH1 _ _ _)
 have f3:=U9 a3 b3 _ p3 q3 v3 (sH0 a2 b2 (sH a1 b1 (sH a0 b0 0))) (sH1 _ _ _)
 clear v0 v1 v2 v3 p0 p1 p2 p3 q0 q1 q2 q3
 go_enter TryQ.func89,Tryz.ntmps89
 go_wp2
 refine wp_loop_rounds 5 ?_
 rw [rounds_succ]
 go_wp2
 go_region
 go_wp2
 rw [rounds_succ]
 go_wp2
 go_region
 go_wp2
 rw [rounds_succ]
 go_wp2
 go_region
 go_wp2
 rw [rounds_succ]
 go_wp2
 go_region
 go_wp2
 rw [rounds_succ]
 go_wp2
 simp [bodyPost,results,Tryz.results89,go_sem]
 exact (Aal _ _ _ _ _).drew.drew.drew.drew
theorem sub (a b : Nat) (ha : a < M) (hb : b < M) (w : World) :
  Calls TryQ.prog 89 #[wd a,wd b] w fun e w'=>e = .returned (wd ((a + M - b) % M)) /\ Below w.heap.size w w':=by
 refine (Aqq _ _ _ _ _ _ _ _ w (Bu a 0) (Bu a 1) (Bu a 2) (Bu a 3) (Bu b 0) (Bu b 1) (Bu b 2) (Bu b 3)
  (Cn b 0) (Cn b 1) (Cn b 2) (Cn b 3)).mono fun e w' ⟨he,hb'⟩=>?_
 obtain ⟨h0,h1,h2,h3⟩:=Akn a b ha hb
 unfold wd
 rw [h0,h1,h2,h3]
 exact ⟨he,hb'⟩
theorem Aj1 (a b : Nat) : decide (De a b < 0) = decide (a < b):=by
 unfold De
 by_cases h : (a : Int) < b
 ·rw [if_pos h]; have : a < b:=by omega
  simp [this]
 ·rw [if_neg h]; have : ¬ a < b:=by omega
  split <;> simp [this]
theorem less (a b : Nat) (ha : a < M) (hb : b < M) (w : World) :
  Calls TryQ.prog 117 #[wd a,wd b] w fun e w'=>e = .returned (.bool (decide (a < b))) /\ Below w.heap.size w w':=by
 rw [<- Aj1]
 have hcmp:=compare a b ha hb
 generalize De (a : Int) (b : Int) = c at hcmp ⊢
 go_enter TryQ.func117,Tryz.ntmps117
 go_wp2_with fail
 refine (hcmp _).mono ?_
 rintro e w1 ⟨rfl,hb1⟩
 clear hcmp
 go_wp2
 go_ret
 exact ⟨rfl,Below.trans (ba.alloc (by simp) _) (hb1.mono (by simp; omega))⟩
abbrev set4 (w : World) (b n : Nat) : World :=
 (((w.setCell ⟨b,0,none⟩ (.int .u64 (lim n 0))).setCell ⟨b,1,none⟩ (.int .u64 (lim n 1))).setCell ⟨b,2,none⟩ (.int .u64 (lim n 2))).setCell ⟨b,3,none⟩ (.int .u64 (lim n 3))
theorem Aaw {B : Nat} {a w : World} (h : Below B a w) {b : Nat} (hb : B <= b) (n : Nat) : Below B a (set4 w b n) :=
 (((h.setCell (p:=⟨b,0,none⟩) hb _).setCell (p:=⟨b,1,none⟩) hb _).setCell (p:=⟨b,2,none⟩) hb _).setCell (p:=⟨b,3,none⟩) hb _
theorem Below.over {w W w1 : World} (h : Below w.heap.size w W) (hb : Below W.heap.size W w1) : Below w.heap.size w w1:=h.trans (hb.mono h.size)
theorem An8 (a b c : Nat) (ha : a < M) (hb : b < M) (w : World) :
  Calls TryQ.prog 66 #[.int .u8 1,wd a,wd b,wd c] w fun e w'=>e = .returned (wd ((a + b) % M)) /\ Below w.heap.size w w':=by
 go_enter TryQ.func66,Tryz.ntmps66
 go_wp2_with fail
 refine (add a b ha hb _).mono ?_
 rintro e w1 ⟨rfl,hb1⟩
 obtain ⟨hc,hf⟩:=Am3 hb1
 have hz : w.heap.size + 1 + 1 + 1 < w1.heap.size:=by have:=hb1.size; simp at this; omega
 have hB : Below w.heap.size w w1:=Below.over (Aal w _ _ _ _) hb1
 clear hb1
 go_wp2
 simp [bodyPost,results,Tryz.results66,go_sem,hc]
 exact Aaw hB (by omega) _
end Go.Mark
namespace Go.Mark
open Go.RowKit Go.Proofs
theorem Yc (w : World) : Calls TryQ.prog 147 #[.int .u8 0] w fun e w'=>e = .returned (.int .i64 1) /\ w' = w:=by
 go_enter TryQ.func147,Tryz.ntmps147
 go_wp2
 go_ret
 exact ⟨rfl,rfl⟩
theorem Ac2 (w : World) : Calls TryQ.prog 290 #[.int .u8 0] w fun e w'=>e = .returned (.tuple #[.agg #[.int .i64 0,.int .i64 0,.int .i64 0],.bool true]) /\ Below w.heap.size w w':=by
 go_enter TryQ.func290,Tryz.ntmps290
 go_wp2
 simp [bodyPost,results,Tryz.results290,go_sem]
 first | exact (Below.refl _ _).alloc (Nat.le_refl _) _ | exact ba.alloc (by simp) _
theorem Ajg (w : World) : Calls TryQ.prog 147 #[.int .u8 1] w fun e w'=>e = .returned (.int .i64 1) /\ w' = w:=by
 go_enter TryQ.func147,Tryz.ntmps147
 go_wp2
 go_ret
 exact ⟨rfl,rfl⟩
theorem Ac1 (w : World) : Calls TryQ.prog 290 #[.int .u8 1] w fun e w'=>e = .returned (.tuple #[.agg #[.int .i64 2,.int .i64 1,.int .i64 3],.bool true]) /\ Below w.heap.size w w':=by
 go_enter TryQ.func290,Tryz.ntmps290
 go_wp2
 simp [bodyPost,results,Tryz.results290,go_sem]
 first | exact (Below.refl _ _).alloc (Nat.le_refl _) _ | exact ba.alloc (by simp) _
theorem Afs (w : World) : Calls TryQ.prog 147 #[.int .u8 45] w fun e w'=>e = .returned (.int .i64 1) /\ w' = w:=by
 go_enter TryQ.func147,Tryz.ntmps147
 go_wp2
 go_ret
 exact ⟨rfl,rfl⟩
theorem Ah5 (w : World) : Calls TryQ.prog 290 #[.int .u8 45] w fun e w'=>e = .returned (.tuple #[.agg #[.int .i64 2,.int .i64 0,.int .i64 5000],.bool true]) /\ Below w.heap.size w w':=by
 go_enter TryQ.func290,Tryz.ntmps290
 go_wp2
 simp [bodyPost,results,Tryz.results290,go_sem]
 first | exact (Below.refl _ _).alloc (Nat.le_refl _) _ | exact ba.alloc (by simp) _
theorem Afr (w : World) : Calls TryQ.prog 147 #[.int .u8 50] w fun e w'=>e = .returned (.int .i64 1) /\ w' = w:=by
 go_enter TryQ.func147,Tryz.ntmps147
 go_wp2
 go_ret
 exact ⟨rfl,rfl⟩
theorem Ah4 (w : World) : Calls TryQ.prog 290 #[.int .u8 50] w fun e w'=>e = .returned (.tuple #[.agg #[.int .i64 3,.int .i64 0,.int .i64 375],.bool true]) /\ Below w.heap.size w w':=by
 go_enter TryQ.func290,Tryz.ntmps290
 go_wp2
 simp [bodyPost,results,Tryz.results290,go_sem]
 first | exact (Below.refl _ _).alloc (Nat.le_refl _) _ | exact ba.alloc (by simp) _
theorem Afq (w : World) : Calls TryQ.prog 147 #[.int .u8 61] w fun e w'=>e = .returned (.int .i64 1) /\ w' = w:=by
 go_enter TryQ.func147,Tryz.ntmps147
 go_wp2
 go_ret
 exact ⟨rfl,rfl⟩
theorem Ah3 (w : World) : Calls TryQ.prog 290 #[.int .u8 61] w fun e w'=>e = .returned (.tuple #[.agg #[.int .i64 7,.int .i64 1,.int .i64 40],.bool true]) /\ Below w.heap.size w w':=by
 go_enter TryQ.func290,Tryz.ntmps290
 go_wp2
 simp [bodyPost,results,Tryz.results290,go_sem]
 first | exact (Below.refl _ _).alloc (Nat.le_refl _) _ | exact ba.alloc (by simp) _
theorem Afp (w : World) : Calls TryQ.prog 147 #[.int .u8 62] w fun e w'=>e = .returned (.int .i64 1) /\ w' = w:=by
 go_enter TryQ.func147,Tryz.ntmps147
 go_wp2
 go_ret
 exact ⟨rfl,rfl⟩
theorem Ah2 (w : World) : Calls TryQ.prog 290 #[.int .u8 62] w fun e w'=>e = .returned (.tuple #[.agg #[.int .i64 6,.int .i64 1,.int .i64 40],.bool true]) /\ Below w.heap.size w w':=by
 go_enter TryQ.func290,Tryz.ntmps290
 go_wp2
 simp [bodyPost,results,Tryz.results290,go_sem]
 first | exact (Below.refl _ _).alloc (Nat.le_refl _) _ | exact ba.alloc (by simp) _
theorem Afo (w : World) : Calls TryQ.prog 147 #[.int .u8 98] w fun e w'=>e = .returned (.int .i64 4) /\ w' = w:=by
 go_enter TryQ.func147,Tryz.ntmps147
 go_wp2
 go_ret
 exact ⟨rfl,rfl⟩
theorem Ah1 (w : World) : Calls TryQ.prog 290 #[.int .u8 98] w fun e w'=>e = .returned (.tuple #[.agg #[.int .i64 0,.int .i64 1,.int .i64 3],.bool true]) /\ Below w.heap.size w w':=by
 go_enter TryQ.func290,Tryz.ntmps290
 go_wp2
 simp [bodyPost,results,Tryz.results290,go_sem]
 first | exact (Below.refl _ _).alloc (Nat.le_refl _) _ | exact ba.alloc (by simp) _
section
class BaseB where
 b0 : Nat
 b1 : Nat
 le : b0 <= b1
def BaseB.lo [BaseB] (t : TypeId) : Nat:=if t = 41 then BaseB.b1 else BaseB.b0
theorem BaseB.lo_ge [BaseB] (t : TypeId) : BaseB.b0 <= BaseB.lo t:=by
 unfold BaseB.lo
 split
 ·exact BaseB.le
 ·exact Nat.le_refl _
theorem BaseB.lo262 [BaseB] : BaseB.lo 262 <= BaseB.b0:=by simp [BaseB.lo]
theorem BaseB.lo41 [BaseB] : BaseB.lo 41 <= BaseB.b1:=by simp [BaseB.lo]
variable [BaseB]
structure Pres (B : List Nat) (T : List TypeId) (w w' : World) : Prop where
 os : w'.os = w.os
 tape : w'.tape = w.tape
 output : w'.output = w.output
 size : w.heap.size <= w'.heap.size
 block : ∀ k,k < w.heap.size -> k ∉ B -> w'.heap[k]? = w.heap[k]? \/ ∃ t c c',t ∈ T /\ BaseB.lo t <= k /\ w.heap[k]? = ob c t /\ w'.heap[k]? = ob c' t
theorem Pres.refl (B : List Nat) (T : List TypeId) (w : World) : Pres B T w w:=⟨rfl,rfl,rfl,Nat.le_refl _,fun _ _ _=>.inl rfl⟩
theorem Pres.mono {B B' : List Nat} {T T' : List TypeId} {w w' : World} (h : Pres B T w w') (hB : ∀ k,k < w.heap.size -> k ∈ B -> k ∈ B') (hT : ∀ t ∈ T,t ∈ T') : Pres B' T' w w' :=
 ⟨h.os,h.tape,h.output,h.size,fun k hk hn=>(h.block k hk (fun e=>hn (hB k hk e))).imp id fun ⟨t,c,c',ht,h1,h2⟩=>⟨t,c,c',hT t ht,h1,h2⟩⟩
theorem Pres.trans {B : List Nat} {T : List TypeId} {w v u : World} (h : Pres B T w v) (h' : Pres B T v u) : Pres B T w u:=by
 refine ⟨h'.os.trans h.os,h'.tape.trans h.tape,h'.output.trans h.output,Nat.le_trans h.size h'.size,fun k hk hn=>?_⟩
 rcases h.block k hk hn with e | ⟨t,c,c',ht,hb,h1,h2⟩
 ·rcases h'.block k (Nat.lt_of_lt_of_le hk h.size) hn with e' | ⟨t,c,c',ht,hb,h1,h2⟩
  ·exact .inl (e'.trans e)
  ·exact .inr ⟨t,c,c',ht,hb,e.symm.trans h1,h2⟩
 ·rcases h'.block k (Nat.lt_of_lt_of_le hk h.size) hn with e' | ⟨t',d,d',ht',_,h3,h4⟩
  ·exact .inr ⟨t,c,c',ht,hb,h1,e'.trans h2⟩
  ·rw [h2] at h3
   cases h3
   exact .inr ⟨t,c,d',ht,hb,h1,h4⟩
theorem Pres.of_below {w w' : World} (h : Below w.heap.size w w') (B : List Nat) (T : List TypeId) : Pres B T w w':=⟨h.os,h.tape,h.output,h.size,fun k hk _=>.inl (h.block k hk)⟩
theorem Pres.setCell (w : World) (b i : Nat) (v : Value) : Pres [b] [] w (w.setCell ⟨b,i,none⟩ v):=by
 have h:=W9 w ⟨b,i,none⟩ v
 exact ⟨h.os,h.tape,h.output,h.size,fun k hk hn=>.inl (h.block k hk (fun e=>hn (by simp only [List.mem_singleton]; exact e)))⟩
theorem Alc {w : World} {base size n : Nat} {e : TypeId} {v : Value} {xs : List Value} (h : w.ownsRow base e size v n xs) (k : Nat) (hv : v.ownBlock = some k) : base <= k:=by
 rcases h.2 with ⟨rfl,_⟩ | ⟨g,cap,cur,rfl,hb,_⟩
 ·cases hv
 ·cases hv; exact hb
theorem Pres.floor {B : List Nat} {T : List TypeId} {w w' : World} (h : Pres B T w w') {k : Nat} (hk : k < BaseB.b0) (hw : k < w.heap.size) (hB : k ∉ B) : w'.heap[k]? = w.heap[k]? :=
 (h.block k hw hB).elim id fun ⟨t,_,_,_,hb,_⟩=>by have:=BaseB.lo_ge t; omega
theorem Pres.grown {w w' : World} {size n : Nat} {e : TypeId} {v : Value} {xs : List Value} {n' : Nat} {xs' : List Value} {base base' : Nat} (h : w.grownBy w' v.ownBlock) (hlo : BaseB.lo e <= base) (h1 : w.ownsRow base e size v n xs) (h3 : w'.ownsRow base' e size v n' xs') : Pres [] [e] w w':=by
 have hk:=Ab4 h
 refine ⟨hk.os,hk.tape,hk.output,hk.size,fun k hlt _=>?_⟩
 by_cases hv : v.ownBlock = some k
 ·obtain ⟨c,hc⟩:=Cj h1 k hv
  obtain ⟨c',hc'⟩:=Cj h3 k hv
  exact .inr ⟨e,c,c',by simp,Nat.le_trans hlo (Alc h1 k hv),hc,hc'⟩
 ·exact .inl (hk.block k hlt hv)
def I8 (T : List TypeId) : Obj -> Prop
 | .cells _ t _=>t ∉ T
 | _=>True
theorem Pres.obj {B : List Nat} {T : List TypeId} {w w' : World} (h : Pres B T w w') {k : Nat} {o : Obj} (ho : w.heap[k]? = some o) (hT : I8 T o) (hB : k ∉ B) : w'.heap[k]? = some o:=by
 have hk:=(Array.getElem?_eq_some_iff.1 ho).1
 rcases h.block k hk hB with e | ⟨t,c,c',ht,_,h1,_⟩
 ·exact e.trans ho
 ·rw [ho] at h1
  cases h1
  exact absurd ht hT
theorem Ci {w : World} {a b : Nat} {o p : Obj} (h1 : w.heap[a]? = some o) (h2 : w.heap[b]? = some p) (hne : o ≠ p) : a ≠ b:=fun e=>by
 subst e
 rw [h1] at h2
 exact hne (Option.some.inj h2)
theorem Bc {w : World} {a b : Nat} {c c' : Array Value} {t t' : TypeId} {f f' : Nat × Nat} (h1 : w.heap[a]? = some (.cells c t f)) (h2 : w.heap[b]? = some (.cells c' t' f')) (hne : t ≠ t') : a ≠ b:=Ci h1 h2 (fun e=>by cases e; exact hne rfl)
theorem Ad {w : World} {b : Nat} {c : Array Value} {t : TypeId} (h : w.heap[b]? = ob c t) (i : Nat) : w.cell? ⟨b,i,none⟩ = c[i]?:=cell_of_row w b i c t (0,0) h
theorem Ai {w : World} {b : Nat} {c : Array Value} {t : TypeId} (h : w.heap[b]? = ob c t) (i : Nat) : w.frozen? ⟨b,i,none⟩ = false:=frozen_of_row w b i c t h
theorem Aa {w : World} {b : Nat} {o : Obj} (h : w.heap[b]? = some o) : b < w.heap.size:=(Array.getElem?_eq_some_iff.1 h).1
theorem Av {w : World} {b i : Nat} {c : Array Value} {t : TypeId} {v : Value} (h : w.heap[b]? = ob c t) : (w.setCell ⟨b,i,none⟩ v).heap[b]? = ob (c.setIfInBounds i v) t:=heap_setCell_same w b i c t v h
theorem Ae {w : World} {b i k : Nat} {o : Obj} {v : Value} (h : w.heap[k]? = some o) (hne : k ≠ b) : (w.setCell ⟨b,i,none⟩ v).heap[k]? = some o:=(heap_setCell_other w ⟨b,i,none⟩ k v hne).trans h
theorem Al (w : World) (o : Obj) : (w.alloc o).heap[w.heap.size]? = some o:=by show (w.heap.push _)[w.heap.size]? = _; rw [Array.getElem?_push_size]
theorem Aw {w : World} {b : Nat} {o p : Obj} (h : w.heap[b]? = some o) : (w.alloc p).heap[b]? = some o:=(Below.heap_alloc w _ b (Aa h)).trans h
end
end Go.Mark
namespace Go.Mark
open Go.RowKit Go.Proofs
variable [BaseB]
theorem Al3 : ∃ i z,TryQ.prog.info? 262 = some i /\ i.zero = some z /\ i.size = 1 /\ i.bytes = 16 /\ z.cells.size = 1:=by
 obtain ⟨i,hi⟩ : ∃ i,TryQ.prog.info? 262 = some i:=by
  cases h : TryQ.prog.info? 262 with
  | none=>have:=congrArg Option.isSome h; rw [show (TryQ.prog.info? 262).isSome = true by kernel_rfl] at this; cases this
  | some i=>exact ⟨i,rfl⟩
 have e8 : (TryQ.prog.info? 262).map (·.size) = some 1:=by kernel_rfl
 have e64 : (TryQ.prog.info? 262).map (·.bytes) = some 16:=by kernel_rfl
 have ez : ((TryQ.prog.info? 262).bind (·.zero)).map (·.cells.size) = some 1:=by kernel_rfl
 rw [hi] at e8 e64 ez
 simp only [Option.map_some,Option.some.injEq,Option.bind_some] at e8 e64 ez
 cases hz : i.zero with
 | none=>rw [hz] at ez; cases ez
 | some z=>rw [hz] at ez; exact ⟨i,z,hi,hz,e8,e64,by simpa using ez⟩
structure LJ (W : World) (l m : Nat) (cr : Int) (dm : Nat) (J : List Value) : Prop where
 lo : BaseB.b0 <= l
 ex : ∃ jv : SV,W.heap[l]? = ob #[.map (some m),.int .i64 cr,.slice jv.a jv.n jv.c,.map (some dm)] 128 /\ W.ownsRow BaseB.b0 262 1 (.slice jv.a jv.n jv.c) J.length J
theorem note (l m : Nat) (cr : Int) (dm : Nat) (J : List Value) (ct : TypeId) (cv : Value) (W : World) (h : LJ W l m cr dm J) (hJ : J.length < 1000000) :
  Calls TryQ.prog 131 #[pq l 0,.iface ct cv] W fun e w'=>e = .returned (.tuple #[]) /\ LJ w' l m cr dm (J ++ [.iface ct cv]) /\ Pres [l] [262] W w':=by
 obtain ⟨i,z,hi,hz,hs,hb,hzs⟩:=Al3
 obtain ⟨jv,ho,hown⟩:=h.ex
 have hl:=Aa ho
 have hlo:=h.lo
 have c2 : W.cell? ⟨l,2,none⟩ = some (.slice jv.a jv.n jv.c):=by rw [Ad ho 2]; rfl
 have hbx : Below W.heap.size W (W.alloc (.cells #[.iface ct cv] 262)):=ba
 have hown1:=own_below hown hbx
 have hn : (W.alloc (.cells #[.iface ct cv] 262)).cell? ⟨W.heap.size,0,none⟩ = some (.iface ct cv):=by rw [Ad (Al W _) 0]; rfl
 have ho1:=Aw (p:=.cells #[.iface ct cv] 262) ho
 go_enter TryQ.func131,Tryz.ntmps131
 go_wp2_with (at_builtin; go_loud (refine Gw _ (by rfl) _ _ 126 (by rfl) BaseB.b0 262 i z 1 16 ((Ab 126).trans Tryz.underlying126) hi hz hs hb hzs (by omega) (.slice jv.a jv.n jv.c) J.length J (by rfl) hown1 ⟨W.heap.size,0,none⟩ 1 1 [.iface ct cv] (by rfl) rfl (fun j v hj=>?_) (fun u hu=>?_) (by omega) (by simp only [maxLen]; omega) (by omega) (by simp; omega) (W.heap.size + 1) (by simp) ?_))
 ·obtain rfl : j = 0:=by rcases j with _ | j; rfl; simp at hj
  simp only [List.getElem?_cons_zero,Option.some.injEq] at hj
  subst hj
  exact hn
 ·simp only [List.mem_singleton] at hu
  subst hu
  rfl
 intro g cap W3 hown3 hgrow hat hlt3 hold
 have hne : ∀ k,(Value.slice jv.a jv.n jv.c).ownBlock = some k -> k ≠ l:=fun k hk=>by
  obtain ⟨cur,hcur⟩:=Cj hown1 k hk
  exact Bc hcur ho1 (by decide)
 have ho3 : W3.heap[l]? = _:=(hgrow.block l (Aa ho1) (fun e=>hne l e.symm rfl)).trans ho1
 have d2 : W3.cell? ⟨l,2,none⟩ = some (.slice jv.a jv.n jv.c):=by rw [Ad ho3 2]; rfl
 have f2:=Ai ho3 2
 clear c2
 go_wp2
 simp [bodyPost,results,Tryz.results131,go_sem]
 refine ⟨⟨hlo,⟨some ⟨g,0,none⟩,J.length + 1,cap⟩,Av ho3,?_⟩,?_⟩
 ·have hl1 : (J ++ [Value.iface ct cv]).length = J.length + 1:=by simp
  rw [hl1]
  exact Cw hown3 fun k hk=>heap_setCell_other W3 ⟨l,2,none⟩ k _ (fun e=>by
   obtain ⟨cur,hcur⟩:=Cj hown3 k hk
   exact Bc hcur ho3 (by decide) e)
 ·refine Pres.trans (v:=W.alloc (.cells #[.iface ct cv] 262)) (.of_below hbx _ _) (Pres.trans (v:=W3) ?_ ?_)
  ·exact (Pres.grown hgrow BaseB.lo262 hown1 hold).mono (fun k _ h=>by cases h) (fun t h=>h)
  ·exact (Pres.setCell W3 l 2 _).mono (fun k _ h=>h) (fun t h=>by cases h)
end Go.Mark
namespace Go.Mark
open Go.RowKit Go.Proofs Go.MapKept Go.ChangeMaps
def Mx (es : List MapEntry) (clock : Nat) : Prop:=(∀ x ∈ es,x.born < clock) /\ (es.map (·.born)).Nodup
section
variable {κ : Type}
def MapB (kf : κ -> Value) (w : World) (r : Nat) (l : List (κ × Value)) : Prop:=∃ es clock,w.heap[r]? = some (.map es clock) /\ Reads kf es.toList l /\ Mx es.toList clock
theorem MapB.mapL {kf : κ -> Value} {w : World} {r : Nat} {l : List (κ × Value)} (h : MapB kf w r l) : MapL kf w r l:=let ⟨es,c,h1,h2,_⟩:=h; ⟨es,c,h1,h2⟩
theorem MapB.same {kf : κ -> Value} {w w' : World} {r : Nat} {l : List (κ × Value)} (h : MapB kf w r l) (e : w'.heap[r]? = w.heap[r]?) : MapB kf w' r l:=let ⟨es,c,hb,hR⟩:=h; ⟨es,c,e.trans hb,hR⟩
theorem MapB.lt {kf : κ -> Value} {w : World} {r : Nat} {l : List (κ × Value)} (h : MapB kf w r l) : r < w.heap.size:=let ⟨_,_,hb,_⟩:=h; (Array.getElem?_eq_some_iff.1 hb).1
theorem MapB.below {kf : κ -> Value} {w w' : World} {r : Nat} {l : List (κ × Value)} (h : MapB kf w r l) (hb : Below w.heap.size w w') : MapB kf w' r l:=h.same (hb.block r h.lt)
theorem MapB.new (kf : κ -> Value) (w : World) : MapB kf (w.alloc (.map #[] 0)) w.heap.size []:=⟨#[],0,by show (w.heap.push _)[w.heap.size]? = _; rw [Array.getElem?_push_size],rfl,by simp [Mx]⟩
variable [DecidableEq κ]
theorem Rh {kt et mt : TypeId} {kf : κ -> Value} {ok : κ -> Prop} (K : Keys kt kf ok) (hm : TryQ.prog.underlying mt = some (.map kt et)) {w : World} {r : Nat} {l : List (κ × Value)} {k : κ} {v : Value} (hM : MapB kf w r l) (hk : ok k) (hl : ∀ p ∈ l,ok p.1) :
  ∃ es clock,(Instr.mapUpdate mt (.map (some r)) (kf k) v).run TryQ.prog w = .ok () { w with heap:=w.heap.setIfInBounds r (.map es clock) } /\ MapB kf { w with heap:=w.heap.setIfInBounds r (.map es clock) } r (Gy k v l):=by
 obtain ⟨es,clock,hb,hR,hS⟩:=hM
 have hf:=K.find k es.toList l w hk hl hR
 have hlt : r < w.heap.size:=(Array.getElem?_eq_some_iff.1 hb).1
 have hset : ∀ o : Obj,(w.heap.setIfInBounds r o)[r]? = some o:=fun o=>by simp [hlt]
 have hg : (getObj r).run TryQ.prog w = .ok (.map es clock) w:=by simp [getObj,Sem.run,hb]
 have hs : ∀ o : Obj,(setObj r o).run TryQ.prog w = .ok () { w with heap:=w.heap.setIfInBounds r o }:=fun o=>by simp [setObj,Sem.run,hb]
 unfold Instr.mapUpdate
 cases h : Ct k l 0 with
 | none =>
  refine ⟨es.push { key:=kf k,val:=v,born:=clock },clock + 1,?_,_,_,hset _,hR.push h es clock,?_⟩
  ·simp [run_underlying hm,hg,hs,K.chk,hf,h]
  ·refine ⟨fun x hx=>?_,?_⟩
   ·rw [Array.toList_push] at hx
    rcases List.mem_append.1 hx with hx | hx
    ·exact Nat.lt_succ_of_lt (hS.1 x hx)
    ·rw [List.mem_singleton.1 hx]; exact Nat.lt_succ_self _
   ·rw [Array.toList_push,List.map_append]
    refine List.nodup_append.2 ⟨hS.2,by simp,fun a ha b hb e=>?_⟩
    obtain ⟨x,hx,rfl⟩:=List.mem_map.1 ha
    have:=hS.1 x hx
    simp at hb
    omega
 | some p =>
  obtain ⟨j,x⟩:=p
  obtain ⟨h1,h2⟩:=hR.upd (v:=v) h es
  refine ⟨es.modify j fun e=>{ e with key:=kf k,val:=v },clock,?_,_,_,hset _,h2,?_⟩
  ·simp [run_underlying hm,hg,hs,K.chk,hf,h,Instr.keyThatStays,h1,K.bits]
  ·have hmap : (es.modify j fun e=>{ e with key:=kf k,val:=v }).toList.map (·.born) = es.toList.map (·.born):=by
    apply List.ext_getElem?
    intro i
    simp only [List.getElem?_map,Array.getElem?_toList,Array.getElem?_modify]
    by_cases hij : j = i
    ·subst hij; cases es[j]? <;> simp
    ·simp [hij]
   refine ⟨fun x hx=>?_,by rw [hmap]; exact hS.2⟩
   have : x.born ∈ (es.modify j fun e=>{ e with key:=kf k,val:=v }).toList.map (·.born):=List.mem_map_of_mem hx
   rw [hmap] at this
   obtain ⟨y,hy,e⟩:=List.mem_map.1 this
   rw [<- e]
   exact hS.1 y hy
theorem Eo {kt et mt : TypeId} {kf : κ -> Value} {ok : κ -> Prop} (K : Keys kt kf ok) (hm : TryQ.prog.underlying mt = some (.map kt et)) {W : World} {r : Nat} {l : List (κ × Value)} {k : κ} {v : Value} {o : Oper} {a : Act} {next : Act -> World -> Prop} {Q : Exit -> Act -> World -> Prop} (hM : MapB kf W r l) (hk : ok k) (hl : ∀ p ∈ l,ok p.1)
  (h : ∀ o',MapB kf { W with heap:=W.heap.setIfInBounds r o' } r (Gy k v l) -> next (a.put o.dst ud) { W with heap:=W.heap.setIfInBounds r o' }) :
  Oper.upon TryQ.prog o a next Q ((Sem.run TryQ.prog (Instr.mapUpdate mt (.map (some r)) (kf k) v) W).andThen fun _ w'=>.ok .skip w'):=by
 obtain ⟨es,clock,hrun,hM'⟩:=Rh K hm (v:=v) hM hk hl
 rw [hrun]
 exact h _ hM'
end
structure IterAt (w : World) (b r : Nat) (es : Array MapEntry) (clock : Nat) (pre : List MapEntry) : Prop where
 map : w.heap[b]? = some (.map es clock)
 st : Mx es.toList clock
 it : w.heap[r]? = some (.mapIter (some b) clock (pre.map (·.born)).toArray clock)
 sub : ∀ e ∈ pre,e ∈ es.toList
 nd : (pre.map (·.born)).Nodup
theorem IterAt.start {w : World} {b : Nat} {es : Array MapEntry} {clock : Nat} (hb : w.heap[b]? = some (.map es clock)) (hs : Mx es.toList clock) : IterAt (w.alloc (.mapIter (some b) clock #[] clock)) b w.heap.size es clock [] :=
 ⟨(Below.heap_alloc w _ b (Array.getElem?_eq_some_iff.1 hb).1).trans hb,hs,by show (w.heap.push _)[w.heap.size]? = _; rw [Array.getElem?_push_size]; rfl,by simp,by simp⟩
theorem IterAt.walks {w w' : World} {b r : Nat} {es : Array MapEntry} {clock : Nat} {pre : List MapEntry} (h : IterAt w b r es clock pre) (h1 : w'.heap[b]? = w.heap[b]?) (h2 : w'.heap[r]? = w.heap[r]?) : IterAt w' b r es clock pre:=⟨h1.trans h.map,h.st,h2.trans h.it,h.sub,h.nd⟩
theorem Tv {α β : Type} {f : α -> β} {l : List α} (h : (l.map f).Nodup) : l.Nodup:=(List.pairwise_map.1 h).imp fun h e=>h (congrArg f e)
theorem Uy {es : List MapEntry} (h : (es.map (·.born)).Nodup) {x y : MapEntry} (hx : x ∈ es) (hy : y ∈ es) (e : x.born = y.born) : x = y:=by
 obtain ⟨i,hi,rfl⟩:=List.mem_iff_getElem.1 hx
 obtain ⟨j,hj,rfl⟩:=List.mem_iff_getElem.1 hy
 have hn:=List.pairwise_iff_getElem.1 h
 rcases Nat.lt_trichotomy i j with hij | hij | hij
 ·have:=hn i j (by simpa using hi) (by simpa using hj) hij
  simp [e] at this
 ·subst hij; rfl
 ·have:=hn j i (by simpa using hj) (by simpa using hi) hij
  simp [e] at this
theorem IterAt.next {w : World} {b r : Nat} {es : Array MapEntry} {clock : Nat} {pre : List MapEntry} (h : IterAt w b r es clock pre) (hne : b ≠ r) (ty : TypeId) :
  (pre.Perm es.toList /\ (Instr.next (pq r 0) false ty).run TryQ.prog w = .ok (.tuple #[.bool false]) w) \/
  ∃ e w',e ∈ es.toList /\ e ∈ (leftOf es (pre.map (·.born)).toArray).toList /\ (Instr.next (pq r 0) false ty).run TryQ.prog w = .ok (.tuple #[.bool true,e.key,e.val]) w' /\ IterAt w' b r es clock (pre ++ [e]) /\ w.grownBy w' (some r) /\ w'.heap.size = w.heap.size /\
   (Instr.entry (pq r 0)).run TryQ.prog w' = .ok (.tuple #[e.key,e.val]) w':=by
 rcases run_next_at (P:=TryQ.prog) w ty r b clock clock (pre.map (·.born)).toArray es clock h.it h.map h.st.1 (Nat.le_refl _) with ⟨h0,hrun⟩ | ⟨e,he,w1,hal,hrun⟩
 ·refine .inl ⟨?_,hrun⟩
  have hall:=all_seen es _ h0
  have hn1 : pre.Nodup:=Tv h.nd
  have hn2 : es.toList.Nodup:=Tv h.st.2
  refine (List.perm_ext_iff_of_nodup hn1 hn2).2 fun x=>⟨h.sub x,fun hx=>?_⟩
  have:=hall x hx
  simp only [List.contains_toArray,List.contains_iff_mem] at this
  obtain ⟨y,hy,e⟩:=List.mem_map.1 this
  rw [<- Uy h.st.2 (h.sub y hy) hx e]
  exact hy
 ·obtain ⟨hem,hes⟩:=mem_left he
  have hnp : e ∉ pre:=fun hp=>by
   have : (pre.map (·.born)).contains e.born = true:=by simp only [List.contains_iff_mem]; exact List.mem_map_of_mem hp
   rw [List.contains_toArray] at hes
   rw [hes] at this
   cases this
  have hr1 : w1.heap[r]? = some (.mapIter (some b) clock (pre.map (·.born)).toArray clock):=by rcases hal with rfl | rfl <;> exact h.it
  have hb1 : w1.heap[b]? = some (.map es clock):=by rcases hal with rfl | rfl <;> exact h.map
  have hset:=MapKept.heap_set (o':=.mapIter (some b) clock ((pre.map (·.born)).toArray.push e.born) clock) hr1
  have hb' : (setBlock w1 r (.mapIter (some b) clock ((pre.map (·.born)).toArray.push e.born) clock)).heap[b]? = some (.map es clock):=(hset.2 b hne).trans hb1
  refine .inr ⟨e,_,hem,he,hrun,⟨hb',h.st,?_,fun x hx=>?_,?_⟩,?_,?_,run_entry_at _ r b clock _ es clock e hset.1 hb' hem h.st.2⟩
  ·refine hset.1.trans ?_; simp
  ·rcases List.mem_append.1 hx with hx | hx
   ·exact h.sub x hx
   ·rw [List.mem_singleton.1 hx]; exact hem
  ·rw [List.map_append]
   refine List.nodup_append.2 ⟨h.nd,by simp,fun a ha c hc e'=>?_⟩
   obtain ⟨y,hy,rfl⟩:=List.mem_map.1 ha
   simp only [List.map_cons,List.map_nil,List.mem_singleton] at hc
   rw [hc] at e'
   exact hnp (Uy h.st.2 (h.sub y hy) hem e' ▸ hy)
  ·rcases hal with rfl | rfl <;> exact ⟨rfl,rfl,rfl,by simp [setBlock],fun i _ hi=>hset.2 i (fun e1=>hi (by rw [e1]))⟩
  ·rcases hal with rfl | rfl <;> simp [setBlock]
theorem IterAt.left {w : World} {b r : Nat} {es : Array MapEntry} {clock : Nat} {pre : List MapEntry} (h : IterAt w b r es clock pre) : w.rangeLeft b r = (leftOf es (pre.map (·.born)).toArray).size:=by
 unfold World.rangeLeft
 rw [h.map,h.it]
theorem Afu {es : Array MapEntry} {pre : List MapEntry} {e : MapEntry} (he : e ∈ (leftOf es (pre.map (·.born)).toArray).toList) : (leftOf es ((pre ++ [e]).map (·.born)).toArray).size < (leftOf es (pre.map (·.born)).toArray).size:=by
 have:=left_shrinks es _ e he
 simpa using this
end Go.Mark
namespace Go.Mark
open Go.RowKit Go.Proofs
def slotL (ss : List (Nat × Nat)) : List (Nat × Value):=ss.map fun p=>(p.1,wd p.2)
end Go.Mark
namespace Go.Mark
open Go.RowKit Go.Proofs
variable [BaseB]
theorem Om {κ : Type} [DecidableEq κ] {kt et mt : TypeId} {kf : κ -> Value} {ok : κ -> Prop} (K : Keys kt kf ok) (hm : TryQ.prog.underlying mt = some (.map kt et)) {w : World} {r : Nat} {l : List (κ × Value)} {k : κ} {z : Value} (hM : MapL kf w r l) (hk : ok k) (hl : ∀ p ∈ l,ok p.1) (hz : ∀ w,(zeroValue et).run TryQ.prog w = .ok z w) :
  (Instr.lookup mt (.map (some r)) (kf k) true).run TryQ.prog w = .ok (.tuple #[(Ct k l 0).elim z (·.2),.bool (Ct k l 0).isSome]) w:=by
 obtain ⟨es,clock,hb,hR⟩:=hM
 have hf:=K.find k es.toList l w hk hl hR
 have hg : (getObj r).run TryQ.prog w = .ok (.map es clock) w:=by simp [getObj,Sem.run,hb]
 unfold Instr.lookup
 cases h : Ct k l 0 with
 | none=>simp [run_underlying hm,hg,K.chk,hf,h,hz]
 | some p=>simp [run_underlying hm,hg,K.chk,hf,h]
structure Ac where
 bal : Nat
 nonce : Int
 code : ByteArray
 mark : SV
 ms : Nat
 sl : List (Nat × Nat)
abbrev AL:=List (Int × Nat × Ac)
structure Dm where
 b : Nat
 l : List Int
def dml (l : List Int) : List (Int × Value):=l.map fun i=>(i,.agg #[])
def Bd (a : Ac) : Array Value:=#[.int .u64 (lim a.bal 0),.int .u64 (lim a.bal 1),.int .u64 (lim a.bal 2),.int .u64 (lim a.bal 3),.int .i64 a.nonce,.string a.code,.slice a.mark.a a.mark.n a.mark.c,.map (some a.ms)]
def ids (L : AL) : List (Int × Value):=L.map fun q=>(q.1,pq q.2.1 0)
structure LG (W : World) (l m : Nat) (dm : Dm) (cr : Int) (L : AL) (J : List Value) : Prop where
 lj : LJ W l m cr dm.b J
 map : MapB (fun x : Int=>Value.int .i64 x) W m (ids L)
 dmap : MapB (fun x : Int=>Value.int .i64 x) W dm.b (dml dm.l)
 acc : ∀ q ∈ L,W.heap[q.2.1]? = ob (Bd q.2.2) 136
 slot : ∀ q ∈ L,MapB wd W q.2.2.ms (slotL q.2.2.sl)
 nd : (L.map (·.1)).Nodup
 ndb : (L.map (·.2.1)).Nodup
 bal : ∀ q ∈ L,q.2.2.bal < M
 key : ∀ q ∈ L,∀ p ∈ q.2.2.sl,p.1 < M /\ p.2 < M
 ndk : ∀ q ∈ L,(q.2.2.sl.map (·.1)).Nodup
 ndm : (L.map (·.2.2.ms)).Nodup
 nms : ∀ q ∈ L,q.2.2.ms ≠ m /\ q.2.2.ms ≠ dm.b
 nmd : m ≠ dm.b
 ndd : dm.l.Nodup
 lo : ∀ q ∈ L,BaseB.b0 <= q.2.1 /\ BaseB.b0 <= q.2.2.ms
 mlo : BaseB.b0 <= m /\ BaseB.b0 <= dm.b
theorem u124 : TryQ.prog.underlying 124 = some (.map 3 129):=(Ab 124).trans Tryz.underlying124
theorem Yn : ∀ (L : AL) (i : Nat) (q : Int × Nat × Ac),(L.map (·.1)).Nodup -> q ∈ L -> ∃ j,Ct q.1 (ids L) i = some (j,pq q.2.1 0)
 | [],_,_,_,h=>by cases h
 | r :: L,i,q,hn,h=>by
  have hn':=List.nodup_cons.1 hn
  show ∃ j,Ct q.1 ((r.1,Value.pointer (some ⟨r.2.1,0,none⟩)) :: ids L) i = _
  unfold Ct
  rcases List.mem_cons.1 h with rfl | h
  ·exact ⟨i,by simp⟩
  ·have hne : r.1 ≠ q.1:=fun e=>hn'.1 (by show r.1 ∈ _; rw [e]; exact List.mem_map_of_mem (f:=fun x : Int × Nat × Ac=>x.1) h)
   obtain ⟨j,hj⟩:=Yn L (i + 1) q hn'.2 h
   exact ⟨j,by rw [if_neg (fun e=>hne e.symm)]; exact hj⟩
theorem Adm : ∀ (L : AL) (i : Nat) (k : Int),k ∉ L.map (·.1) -> Ct k (ids L) i = none
 | [],_,_,_=>rfl
 | r :: L,i,k,h=>by
  show Ct k ((r.1,Value.pointer (some ⟨r.2.1,0,none⟩)) :: ids L) i = _
  unfold Ct
  simp only [List.map_cons,List.mem_cons,not_or] at h
  rw [if_neg h.1]
  exact Adm L (i + 1) k h.2
theorem LG.look {W : World} {l m : Nat} {dm : Dm} {cr : Int} {L : AL} {J : List Value} (h : LG W l m dm cr L J) {q : Int × Nat × Ac} (hq : q ∈ L) {W' : World} (hm : W'.heap[m]? = W.heap[m]?) :
  (Instr.lookup 124 (.map (some m)) (.int .i64 q.1) true).run TryQ.prog W' = .ok (.tuple #[pq q.2.1 0,.bool true]) W':=by
 obtain ⟨j,hj⟩:=Yn L 0 q h.nd hq
 have:=Om intKeys u124 (z:=.pointer none) (h.map.same hm).mapL (k:=q.1) trivial (fun _ _=>trivial) (fun w=>(Af 129 w).trans (Tryz.zeroValue129 w))
 rw [hj] at this
 exact this
theorem LG.nolook {W : World} {l m : Nat} {dm : Dm} {cr : Int} {L : AL} {J : List Value} (h : LG W l m dm cr L J) {k : Int} (hk : k ∉ L.map (·.1)) {W' : World} (hm : W'.heap[m]? = W.heap[m]?) :
  (Instr.lookup 124 (.map (some m)) (.int .i64 k) true).run TryQ.prog W' = .ok (.tuple #[.pointer none,.bool false]) W':=by
 have:=Om intKeys u124 (z:=.pointer none) (h.map.same hm).mapL (k:=k) trivial (fun _ _=>trivial) (fun w=>(Af 129 w).trans (Tryz.zeroValue129 w))
 rw [Adm L 0 k hk] at this
 exact this
theorem LG.cell0 {W : World} {l m : Nat} {dm : Dm} {cr : Int} {L : AL} {J : List Value} (h : LG W l m dm cr L J) : l < W.heap.size /\ W.cell? ⟨l,0,none⟩ = some (.map (some m)):=by
 obtain ⟨jv,ho,_⟩:=h.lj.ex
 exact ⟨Aa ho,by rw [Ad ho 0]; rfl⟩
section
variable {W : World} {l m : Nat} {dm : Dm} {cr : Int} {L : AL} {J : List Value}
theorem Adf (h : LG W l m dm cr L J) {q : Int × Nat × Ac} (hq : q ∈ L) :
  Calls TryQ.prog 82 #[pq l 0,.int .i64 q.1] W fun e w'=>e = .returned (.bool true) /\ w' = W:=by
 have hl:=h.look hq (W':=W) rfl
 obtain ⟨hlt,hc⟩:=h.cell0
 clear hq h
 go_enter TryQ.func82,Tryz.ntmps82
 go_wp2
 go_ret
 exact ⟨rfl,rfl⟩
theorem Jn (h : LG W l m dm cr L J) {q : Int × Nat × Ac} (hq : q ∈ L) :
  Calls TryQ.prog 87 #[pq l 0,.int .i64 q.1] W fun e w'=>e = .returned (pq q.2.1 0) /\ w' = W:=by
 have hl:=h.look hq (W':=W) rfl
 obtain ⟨hlt,hc⟩:=h.cell0
 clear hq h
 go_enter TryQ.func87,Tryz.ntmps87
 go_wp2
 go_ret
 exact ⟨rfl,rfl⟩
theorem Pq (h : LG W l m dm cr L J) {q : Int × Nat × Ac} (hq : q ∈ L) :
  Calls TryQ.prog 130 #[pq l 0,.int .i64 q.1] W fun e w'=>e = .returned (.agg (Bd q.2.2)) /\ Below W.heap.size W w':=by
 obtain ⟨hlt,hc⟩:=h.cell0
 have hq2:=h.acc q hq
 have hbl:=Aa hq2
 have hl:=h.look hq (W':=W.alloc (.cells #[.int .u64 0,.int .u64 0,.int .u64 0,.int .u64 0,.int .i64 0,.string ⟨#[]⟩,.slice none 0 0,.map none] 136)) (Below.heap_alloc W _ m h.map.lt)
 have c0:=bq hq2 0 rfl
 have c1:=bq hq2 1 rfl
 have c2:=bq hq2 2 rfl
 have c3:=bq hq2 3 rfl
 have c4:=bq hq2 4 rfl
 have c5:=bq hq2 5 rfl
 have c6:=bq hq2 6 rfl
 have c7:=bq hq2 7 rfl
 clear hq h hq2
 go_enter TryQ.func130,Tryz.ntmps130
 go_wp2
 simp [bodyPost,results,Tryz.results130,go_sem,Bd]
 exact ba
end
end Go.Mark
