import Derived.Test.YtbephahokhnccaaGreatDoorXF1toF10
import Derived.Deep.WholeRow
import Derived.Deep.AppendLies
import Derived.Deep.RegionHeldLaw
set_option maxRecDepth 100000
set_option maxHeartbeats 4000000
namespace Go.Mark
open Go.RowKit Go.Proofs
def Ba (p : Nat × Nat) : List Value:=[.int .u64 (lim p.1 0),.int .u64 (lim p.1 1),.int .u64 (lim p.1 2),.int .u64 (lim p.1 3),.int .u64 (lim p.2 0),.int .u64 (lim p.2 1),.int .u64 (lim p.2 2),.int .u64 (lim p.2 3)]
def Amo (w : World) (b : Nat) (ss : List (Nat × Nat)) : Prop:=∀ (i : Nat) (p : Nat × Nat),ss[i]? = some p -> CellsAt w b (i * 8) (Ba p)
theorem Ah8 {κ : Type} [DecidableEq κ] {ok : κ -> Prop} (u : Value) (ks : List κ) (h : ∀ k ∈ ks,ok k) : ∀ p ∈ I6 u ks,ok p.1:=fun p hp=>h _ ((Qa u ks p.1).1 (List.mem_map_of_mem hp))
def Es (d : Bt) : Prop:=1 <= d.id /\ d.id <= 999999 /\ 0 <= d.nonce /\ d.nonce <= 4611686018427387904 /\ (d.code.size : Int) <= 2000 /\ (d.slots.length : Int) <= 64 /\ (d.slots.map (·.1)).Nodup
instance (d : Bt) : Decidable (Es d):=by unfold Es; infer_instance
section
attribute [local go_sem] wd
structure R4 (w : World) (r n : Nat) : Prop where
 c0 : w.cell? ⟨r,0,none⟩ = some (.int .u64 (lim n 0))
 c1 : w.cell? ⟨r,1,none⟩ = some (.int .u64 (lim n 1))
 c2 : w.cell? ⟨r,2,none⟩ = some (.int .u64 (lim n 2))
 c3 : w.cell? ⟨r,3,none⟩ = some (.int .u64 (lim n 3))
 fz : ∀ j,w.frozen? ⟨r,j,none⟩ = false
 lt : r < w.heap.size
theorem R4.below {w w' : World} {r n : Nat} (h : R4 w r n) (hb : Below w.heap.size w w') : R4 w' r n :=
 ⟨(hb.cell (p:=⟨r,0,none⟩) h.lt).trans h.c0,(hb.cell (p:=⟨r,1,none⟩) h.lt).trans h.c1,(hb.cell (p:=⟨r,2,none⟩) h.lt).trans h.c2,(hb.cell (p:=⟨r,3,none⟩) h.lt).trans h.c3,fun j=>(hb.frozen (p:=⟨r,j,none⟩) h.lt).trans (h.fz j),Nat.lt_of_lt_of_le h.lt hb.size⟩
def total (ds : List (Bt × SV)) : Nat:=(ds.map (·.1.bal)).sum
theorem Aau (ds : List (Bt × SV)) (k : Nat) (h : k < ds.length) : total (ds.take (k + 1)) = total (ds.take k) + ds[k].1.bal:=by
 unfold total
 rw [<- P7 (fun p : Bt × SV=>p.1.bal) ds k h,List.sum_append]
 simp
theorem Ahu (ds : List (Bt × SV)) (k : Nat) : total (ds.take k) <= total ds:=by
 unfold total
 conv=>rhs; rw [<- List.take_append_drop k ds,List.map_append,List.sum_append]
 omega
structure Ins (w : World) (b : Nat) (ds : List (Bt × SV)) : Prop where
 acc : AccsAt w b 0 ds
 sl : ∀ p ∈ ds,∃ bs cap,p.2 = ⟨some ⟨bs,0,none⟩,p.1.slots.length,cap⟩ /\ Amo w bs p.1.slots
 bal : ∀ p ∈ ds,p.1.bal < M
 num : ∀ p ∈ ds,p.1.slots.length < 2199023255552
 key : ∀ p ∈ ds,∀ q ∈ p.1.slots,q.1 < M /\ q.2 < M
 len : ds.length < 2199023255552
def Er (ds : List Bt) : Prop:=ds.length <= 64 /\ (∀ d ∈ ds,Es d) /\ (ds.map (·.id)).Nodup /\ (ds.map (·.bal)).sum < M
instance (ds : List Bt) : Decidable (Er ds):=by unfold Er; infer_instance
end
def MM : Nat:=13407807929942597099574024998205846127479365820592393377723561443721764030073546976801874298166903427690031858186486050853753882811946569946433649006084096
def dig (n i : Nat) : Int:=((n / 4294967296 ^ i % 4294967296 : Nat) : Int)
abbrev lg (n : Nat) : Value:=.agg #[.int .u64 (dig n 0),.int .u64 (dig n 1),.int .u64 (dig n 2),.int .u64 (dig n 3),.int .u64 (dig n 4),.int .u64 (dig n 5),.int .u64 (dig n 6),.int .u64 (dig n 7),.int .u64 (dig n 8),.int .u64 (dig n 9),.int .u64 (dig n 10),.int .u64 (dig n 11),.int .u64 (dig n 12),.int .u64 (dig n 13),.int .u64 (dig n 14),.int .u64 (dig n 15)]
def val : List Nat -> Nat
 | []=>0
 | x :: l=>x + 4294967296 * val l
section
attribute [local go_sem] wd lg
end
structure Row16 (W : World) (b : Nat) (x0 x1 x2 x3 x4 x5 x6 x7 x8 x9 x10 x11 x12 x13 x14 x15 : Int) : Prop where
 c0 : W.cell? ⟨b,0,none⟩ = some (.int .u64 x0)
 c1 : W.cell? ⟨b,1,none⟩ = some (.int .u64 x1)
 c2 : W.cell? ⟨b,2,none⟩ = some (.int .u64 x2)
 c3 : W.cell? ⟨b,3,none⟩ = some (.int .u64 x3)
 c4 : W.cell? ⟨b,4,none⟩ = some (.int .u64 x4)
 c5 : W.cell? ⟨b,5,none⟩ = some (.int .u64 x5)
 c6 : W.cell? ⟨b,6,none⟩ = some (.int .u64 x6)
 c7 : W.cell? ⟨b,7,none⟩ = some (.int .u64 x7)
 c8 : W.cell? ⟨b,8,none⟩ = some (.int .u64 x8)
 c9 : W.cell? ⟨b,9,none⟩ = some (.int .u64 x9)
 c10 : W.cell? ⟨b,10,none⟩ = some (.int .u64 x10)
 c11 : W.cell? ⟨b,11,none⟩ = some (.int .u64 x11)
 c12 : W.cell? ⟨b,12,none⟩ = some (.int .u64 x12)
 c13 : W.cell? ⟨b,13,none⟩ = some (.int .u64 x13)
 c14 : W.cell? ⟨b,14,none⟩ = some (.int .u64 x14)
 c15 : W.cell? ⟨b,15,none⟩ = some (.int .u64 x15)
 fz : ∀ j,j < 16 -> W.frozen? ⟨b,j,none⟩ = false
theorem below_setCells (b : Nat) : ∀ (vs : List Value) (o : Nat) (B : Nat) (a w : World),Below B a w -> B <= b -> Below B a (w.setCells b o vs)
 | [],_,_,_,_,h,_=>h
 | v :: r,o,B,a,w,h,hb=>by
  rw [World.setCells]
  exact below_setCells b r (o + 1) B a _ (h.setCell (p:=⟨b,o,none⟩) hb v) hb
theorem size_setCells (b : Nat) : ∀ (vs : List Value) (o : Nat) (w : World),(w.setCells b o vs).heap.size = w.heap.size
 | [],_,_=>rfl
 | v :: r,o,w=>by
  rw [World.setCells,size_setCells b r]
  simp
def dl (n : Nat) : List Value:=[.int .u64 (dig n 0),.int .u64 (dig n 1),.int .u64 (dig n 2),.int .u64 (dig n 3),.int .u64 (dig n 4),.int .u64 (dig n 5),.int .u64 (dig n 6),.int .u64 (dig n 7),.int .u64 (dig n 8),.int .u64 (dig n 9),.int .u64 (dig n 10),.int .u64 (dig n 11),.int .u64 (dig n 12),.int .u64 (dig n 13),.int .u64 (dig n 14),.int .u64 (dig n 15)]
def lv (n : Nat) : Value:=.agg (dl n).toArray
theorem lv_lg (n : Nat) : lv n = lg n:=rfl
theorem lv_dl (n : Nat) : lv n = .agg (dl n).toArray:=rfl
theorem dl_len (n : Nat) : (dl n).length = 16:=rfl
theorem i34 : (TryQ.prog.info? 148).map (·.size) = some 16:=by kernel_rfl
structure LL (l : List Value) : Prop where
 len : l.length = 16
 one : l.toArray.all (·.oneCell') = true
structure LH (W : World) (b : Nat) (l : List Value) : Prop where
 r : W.rangeAt b 0 l
 t : W.there b 0 16
 z : b < W.heap.size
def mix (s a k : Nat) : List Value:=(dl s).take k ++ (dl a).drop k
def cyP (a b k : Nat) : Nat:=(a % 4294967296 ^ k + b % 4294967296 ^ k) / 4294967296 ^ k
theorem digN (n k : Nat) : dig n k = ((n / 4294967296 ^ k % 4294967296 : Nat) : Int):=rfl

end Go.Mark
/-! The document's own answer: may a world be made of these? (purserref.sound) -/
namespace Go.Mark
open Go.RowKit Go.Proofs
theorem U7 {P : Program} {ops : Array Oper} {Q : Exit -> Act -> World -> Prop} {md : Region.Mode} {S : World -> Prop} {i : Nat} {oi : Oper} {d : Option Tmp} {v : Value} {fuel : Nat} {listed : Array Bool} {a : Act} {w : World} (hi : ops[i]? = some oi) (hd : oi.dst = d)
    (hs : Region.noSelect ops = true) (hf : Region.free md ops listed i = true) (hr : (Region.ready md ops listed).contains i = true)
    (hQ : ∀ c a w,Q (.panic c) (a.put oi.dst v) w -> Q (.panic c) a w) (hy : YieldsIf P ops S oi v a) (hS : S w)
    (h : wpAnyH P md ops Q S fuel (listed.setIfInBounds i true) (a.put d v) w) : wpAnyH P md ops Q S (fuel + 1) listed a w:=by
  subst hd
  exact wpAnyH_take hi hs hf hr hQ hy hS h
theorem td {P : Program} {ops : Array Oper} {Q : Exit -> Act -> World -> Prop} {md : Region.Mode} {S : World -> Prop} {i : Nat} {oi : Oper} {d : Option Tmp} {v : Value} {fuel : Nat} {listed : Array Bool} {a a' : Act} {w : World} (hi : ops[i]? = some oi) (hd : oi.dst = d)
    (hy : ∀ w,S w -> (execOp a.eval oi).run P w = .ok (.value v) w) (hS : S w) (h : wpAnyH P md ops Q S fuel (listed.setIfInBounds i true) a' w)
    (hs : Region.noSelect ops = true:=by kernel_rfl) (hf : Region.free md ops listed i = true:=by kernel_rfl) (hr : (Region.ready md ops listed).contains i = true:=by kernel_rfl)
    (hQ : ∀ c a w,Q (.panic c) (a.put oi.dst v) w -> Q (.panic c) a w:=by intro _ _ _ h; first | exact h | cases h.1) (hw : Region.wanted oi (yielded ops a.tmps) = true:=by rfl) (hp : a.put d v = a':=by (simp only [Act.put,List.setIfInBounds_toArray,List.set_cons_zero,List.set_cons_succ]; try rfl)) : wpAnyH P md ops Q S (fuel + 1) listed a w:=by
  subst hp
  exact U7 hi hd hs hf hr hQ (Or.inl ⟨hw,hy⟩) hS h
theorem ba {w : World} {o : Obj} : Below w.heap.size w (w.alloc o):=(Below.refl _ _).alloc (Nat.le_refl _) o
abbrev pq (b o : Nat) : Value:=.pointer (some ⟨b,o,none⟩)
abbrev wq (n : Nat) : Array Value:=#[.int .u64 (lim n 0),.int .u64 (lim n 1),.int .u64 (lim n 2),.int .u64 (lim n 3)]
abbrev wz : Array Value:=#[.int .u64 0,.int .u64 0,.int .u64 0,.int .u64 0]
abbrev ob (c : Array Value) (t : TypeId) : Option Obj:=some (.cells c t (0,0))
theorem bq {W : World} {b : Nat} {c : Array Value} {t : TypeId} {f : Nat × Nat} {x : Value} (h : W.heap[b]? = some (.cells c t f)) (i : Nat) (e : c.toList[i]? = some x) : W.cell? ⟨b,i,none⟩ = some x:=by simp only [World.cell?,h]; rw [← Array.getElem?_toList]; exact e
theorem br {W : World} {b : Nat} {c : Array Value} {t : TypeId} {f : Nat × Nat} {x : Value} (h : W.heap[b]? = some (.cells c t f)) (i : Nat) (e : c[i]? = some x) : W.cell? ⟨b,i,none⟩ = some x:=by simp only [World.cell?,h]; exact e
theorem bk {w w' : World} {k : Nat} {o : Obj} (hb : Below w.heap.size w w') (h : w.heap[k]? = some o) : w'.heap[k]? = some o:=(hb.block _ (Array.getElem?_eq_some_iff.1 h).1).trans h
theorem tx {P : Program} {ops : Array Oper} {Q : Exit -> Act -> World -> Prop} {md : Region.Mode} {S : World -> Prop} {oi : Oper} {fuel : Nat} {listed : Array Bool} {a a' : Act} {w : World} (i d : Nat) (v : Value) (hS : S w) (h : wpAnyH P md ops Q S fuel (listed.setIfInBounds i true) a' w) (hi : ops[i]? = some oi:=by rfl) (hd : oi.dst = some d:=by rfl)
 (hy : ∀ w,S w -> (execOp a.eval oi).run P w = .ok (.value v) w:=by (intro _ h; clear h; go_simp))
 (hs : Region.noSelect ops = true:=by kernel_rfl) (hf : Region.free md ops listed i = true:=by kernel_rfl) (hr : (Region.ready md ops listed).contains i = true:=by kernel_rfl)
 (hQ : ∀ c a w,Q (.panic c) (a.put oi.dst v) w -> Q (.panic c) a w:=by intro _ _ _ h; first | exact h | cases h.1) (hw : Region.wanted oi (yielded ops a.tmps) = true:=by rfl) (hp : a.put (some d) v = a':=by (simp only [Act.put,List.setIfInBounds_toArray,List.set_cons_zero,List.set_cons_succ]; try rfl)) : wpAnyH P md ops Q S (fuel + 1) listed a w:=by
 subst hp
 exact U7 hi hd hs hf hr hQ (Or.inl ⟨hw,hy⟩) hS h
theorem tv {P : Program} {ops : Array Oper} {Q : Exit -> Act -> World -> Prop} {md : Region.Mode} {S X : World -> Prop} {oi : Oper} {fuel : Nat} {listed : Array Bool} {a a' : Act} {w : World} (i d : Nat) (v : Value) (hX : ∀ w,S w -> X w) (hS : S w) (h : wpAnyH P md ops Q S fuel (listed.setIfInBounds i true) a' w) (hi : ops[i]? = some oi:=by rfl) (hd : oi.dst = some d:=by rfl)
 (hy : ∀ w,X w -> (execOp a.eval oi).run P w = .ok (.value v) w:=by (intro _ _; go_simp))
 (hs : Region.noSelect ops = true:=by kernel_rfl) (hf : Region.free md ops listed i = true:=by kernel_rfl) (hr : (Region.ready md ops listed).contains i = true:=by kernel_rfl)
 (hQ : ∀ c a w,Q (.panic c) (a.put oi.dst v) w -> Q (.panic c) a w:=by intro _ _ _ h; first | exact h | cases h.1) (hw : Region.wanted oi (yielded ops a.tmps) = true:=by rfl) (hp : a.put (some d) v = a':=by (simp only [Act.put,List.setIfInBounds_toArray,List.set_cons_zero,List.set_cons_succ]; try rfl)) : wpAnyH P md ops Q S (fuel + 1) listed a w:=by
 subst hp
 exact U7 hi hd hs hf hr hQ (Or.inl ⟨hw,fun w h=>hy w (hX w h)⟩) hS h
theorem aq {p q : Prop} (h : p) (k : q) : p /\ q:=⟨h,k⟩
theorem rq {P : Program} {ops : Array Oper} {Q : Exit -> Act -> World -> Prop} {id : Nat} {a : Act} {w : World} (S : World -> Prop) (hS : S w.drew) (h : S w.drew -> wpAnyH P .any ops Q S ops.size (Array.replicate ops.size false) a w.drew) (hm : P.follows .mixedOrders = true:=by kernel_rfl) : (Code.region id ops true).wp P Q a w:=wp_region_held_drew hm hS h
theorem dn {P : Program} {ops : Array Oper} {Q : Exit -> Act -> World -> Prop} {md : Region.Mode} {S : World -> Prop} {listed : Array Bool} {a : Act} {w : World} {fuel : Nat} (h : Q .normal a w) (hr : Region.ready md ops listed = []:=by kernel_rfl) : wpAnyH P md ops Q S fuel listed a w:=wpAnyH_done hr h fuel
theorem r1 {P : Program} {ops : Array Oper} {Q : Exit -> Act -> World -> Prop} {md : Region.Mode} {S : World -> Prop} {fuel : Nat} {listed : Array Bool} {a : Act} {w : World} {o : Oper} (i : Nat)
 (h : ∀ K' : Act -> World -> Prop,Shut (∀ a w,S w -> (S w -> wpAnyH P md ops Q S fuel (listed.setIfInBounds i true) a w) -> K' a w) -> if Region.wanted o (yielded ops a.tmps) = true then Oper.wp P o a w K' Q else K' (a.put o.dst ud) w)
 (hr : Region.ready md ops listed = [i]:=by kernel_rfl) (ho : ops[i]? = some o:=by rfl) : wpAnyH P md ops Q S (fuel + 1) listed a w:=wpAnyH_ready hr (by simp) (AllReadyH.cons ho h AllReadyH.nil)
theorem Ake {P : Program} {c : Code} {a : Act} {w : World} {Q : Exit -> Act -> World -> Prop} (R : World -> Prop) (h : ∃ A,c.wp P (fun e a' W=>e = .normal /\ a' = A /\ R W) a w /\ ∀ W,R W -> Q .normal A W) : c.wp P Q a w :=
  let ⟨_,h1,h2⟩:=h
  Code.wp_mono (fun _ _ _ ⟨e1,e2,hR⟩=>by subst e1 e2; exact h2 _ hR) h1
def SlotsFrom (w : World) (b o : Nat) (ss : List (Nat × Nat)) : Prop:=∀ (i : Nat) (p : Nat × Nat),ss[i]? = some p -> CellsAt w b (o + i * 8) (Ba p)
theorem SlotsFrom.below {w w' : World} {b o : Nat} {ss : List (Nat × Nat)} (h : SlotsFrom w b o ss) (hb : Below w.heap.size w w') : SlotsFrom w' b o ss:=fun i p hp=>(h i p hp).below hb
structure InR (w : World) (a : Option Addr) (ds : List (Bt × SV)) : Prop where
  acc : ds = [] \/ ∃ b o,a = some ⟨b,o,none⟩ /\ AccsAt w b o ds
  sl : ∀ p ∈ ds,p.2.n = p.1.slots.length /\ (p.1.slots = [] \/ ∃ bs os,p.2.a = some ⟨bs,os,none⟩ /\ SlotsFrom w bs os p.1.slots)
  bal : ∀ p ∈ ds,p.1.bal < M
  num : ∀ p ∈ ds,p.1.slots.length < 2199023255552
  key : ∀ p ∈ ds,∀ q ∈ p.1.slots,q.1 < M /\ q.2 < M
  len : ds.length < 2199023255552
theorem InR.below {w w' : World} {a : Option Addr} {ds : List (Bt × SV)} (h : InR w a ds) (hb : Below w.heap.size w w') : InR w' a ds :=
  ⟨h.acc.imp id fun ⟨b,o,h1,h2⟩=>⟨b,o,h1,h2.below hb⟩,fun p hp=>⟨(h.sl p hp).1,(h.sl p hp).2.imp id fun ⟨b,o,h1,h2⟩=>⟨b,o,h1,h2.below hb⟩⟩,h.bal,h.num,h.key,h.len⟩
structure SW (w W : World) (t b5 : Nat) (l : List Value) : Prop where
  below : Below w.heap.size w W
  tot : LH W w.heap.size (dl t)
  x : CellsAt W b5 0 l
  lt : w.heap.size < b5
theorem Et (W : World) (l : List Value) (ty : TypeId) : CellsAt (W.alloc (.cells l.toArray ty)) W.heap.size 0 l:=fun j v hj=>by
  rw [Nat.zero_add]
  rw [World.cell?_alloc_new]; simpa using hj
end Go.Mark
/-! The law's room: slots copied into a row of one's own,eight more behind them. -/
namespace Go.Mark
open Go.RowKit Go.Proofs
def Dq : List (Nat × Nat) -> List Value
 | []=>[]
 | p :: ss=>Ba p ++ Dq ss
theorem Afz : ∀ ss : List (Nat × Nat),(Dq ss).length = ss.length * 8
 | []=>rfl
 | p :: ss=>by
  have h : (Ba p).length = 8:=rfl
  rw [Dq,List.length_append,Afz ss,h,List.length_cons]; omega
theorem Uo : ∀ (ss : List (Nat × Nat)),∀ v ∈ Dq ss,v.oneCell' = true
 | [],v,hv=>by cases hv
 | p :: ss,v,hv=>by
  rcases List.mem_append.1 hv with h | h
  ·simp only [Ba,List.mem_cons,List.not_mem_nil,or_false] at h
   rcases h with h | h | h | h | h | h | h | h <;> rw [h] <;> rfl
  ·exact Uo ss v h
theorem Ad5 (w : World) (Z : Array Value) (ty : TypeId) : (w.alloc (.cells Z ty)).there w.heap.size 0 Z.size:=fun j hj=>by
 rw [Nat.zero_add]
 refine ⟨?_,?_⟩
 ·rw [World.cell?_alloc_new]; simp [hj]
 ·simp [go_sem]
abbrev s78 : Nat × Nat:=(77,78)
end Go.Mark
/-! The law's still: does it read as it did? -/
namespace Go.Mark
open Go.RowKit Go.Proofs
theorem Ac6 (x0 x1 x2 x3 x4 x5 x6 x7 : Value) (w : World) : (part 41 #[x0,x1,x2,x3,x4,x5,x6,x7] 0).run TryQ.prog w = .ok (.agg #[x0,x1,x2,x3]) w /\ (part 41 #[x0,x1,x2,x3,x4,x5,x6,x7] 4).run TryQ.prog w = .ok (.agg #[x4,x5,x6,x7]) w:=by
 refine ⟨?_,?_⟩ <;> kernel_rfl
theorem Xw (p q : Nat × Nat) (hp : p.1 < M /\ p.2 < M) (hq : q.1 < M /\ q.2 < M) (w : World) :
  (Op.equalIn 10000 72 (.agg (Ba p).toArray) (.agg (Ba q).toArray)).run TryQ.prog w = .ok (decide (p.1 = q.1) && decide (p.2 = q.2)) w:=by
 have hu : TryQ.prog.underlying 72 = some (.struct (TryQ.prog.fieldsOf 72)):=by
  unfold Program.fieldsOf
  rw [Ab,Tryz.underlying72]
 rw [run_equalIn_struct (P:=TryQ.prog) w 9999 72 _ _ hu (by kernel_rfl)]
 unfold Program.fieldsOf
 rw [Ab,Tryz.underlying72]
 unfold Ba
 have h1:=fun x0 x1 x2 x3 x4 x5 x6 x7 w=>(Ac6 x0 x1 x2 x3 x4 x5 x6 x7 w).1
 have h2:=fun x0 x1 x2 x3 x4 x5 x6 x7 w=>(Ac6 x0 x1 x2 x3 x4 x5 x6 x7 w).2
 have e1:=Qd 9997 (lim p.1 0) (lim p.1 1) (lim p.1 2) (lim p.1 3) (lim q.1 0) (lim q.1 1) (lim q.1 2) (lim q.1 3)
 have e2:=Qd 9997 (lim p.2 0) (lim p.2 1) (lim p.2 2) (lim p.2 3) (lim q.2 0) (lim q.2 1) (lim q.2 2) (lim q.2 3)
 rw [Vy _ _ hp.1 hq.1] at e1
 rw [Vy _ _ hp.2 hq.2] at e2
 simp only [Op.eqFields,Sem.run_bind,Sem.run_ite,Sem.run_pure,Result.andThen_ok,h1,h2,e1,e2]
 generalize decide (p.1 = q.1) = x1
 generalize decide (p.2 = q.2) = x2
 cases x1 <;> cases x2 <;> simp
theorem Al8 (w : World) (r : Option Nat) : w.grownBy w r:=⟨rfl,rfl,rfl,Nat.le_refl _,fun _ _ _=>rfl⟩
theorem Ahl {w : World} {g : Nat} : ∀ (vs : List Value) (o : Nat) (W : World),w.grownBy W (some g) -> w.grownBy (W.setCells g o vs) (some g)
 | [],_,_,h=>h
 | v :: vs,o,W,h=>Ahl vs (o + 1) (W.setCell ⟨g,o,none⟩ v) ⟨h.os,h.tape,h.output,by simpa [World.setCell] using h.size,fun k hk hr=>(Below.heap_setCell _ _ _ _ (by intro e; exact hr (by rw [e]))).trans (h.block k hk hr)⟩
abbrev s99 : Nat × Nat:=(99,99)
end Go.Mark
/-! The document's New. -/
namespace Go.Mark
open Go.RowKit Go.Proofs
theorem P6 {P : Program} {c : Code} {a : Act} {w : World} {Q : Exit -> Act -> World -> Prop} (R : Nat -> Nat -> World -> Prop) (h : ∃ A : Nat -> Nat -> Act,c.wp P (fun e a' W=>e = .normal /\ ∃ g n,a' = A g n /\ R g n W) a w /\ ∀ g n W,R g n W -> Q .normal (A g n) W) : c.wp P Q a w :=
 let ⟨_,h1,h2⟩:=h
 Code.wp_mono (fun _ _ _ ⟨e1,_,_,e2,hR⟩=>by subst e1 e2; exact h2 _ _ _ hR) h1
theorem Va {W : World} {base size n : Nat} {e : TypeId} {v : Value} {xs : List Value} (h : W.ownsRow base e size v n xs) : ∀ g,v.ownBlock = some g -> base <= g:=fun g hg=>by
 rcases h.2 with ⟨rfl,_⟩ | ⟨g',cap,cur,rfl,hb,_⟩
 ·cases hg
 ·cases hg; exact hb
theorem own_below {W W' : World} {base size n : Nat} {e : TypeId} {v : Value} {xs : List Value} (h : W.ownsRow base e size v n xs) (hb : Below W.heap.size W W') : W'.ownsRow base e size v n xs:=by
 refine ⟨h.1,h.2.imp id ?_⟩
 rintro ⟨g,cap,cur,h1,h2,h3,h4⟩
 exact ⟨g,cap,cur,h1,h2,(hb.block g (Array.getElem?_eq_some_iff.1 h3).1).trans h3,h4⟩
theorem Oz {W W' : World} {r : Option Nat} {B : Nat} (h : W.grownBy W' r) (hr : ∀ g,r = some g -> B <= g) (hB : B <= W.heap.size) : Below B W W' :=
 ⟨h.os,h.tape,h.output,h.size,fun k hk=>h.block k (by omega) (fun e=>by have:=hr k e.symm; omega)⟩
theorem Aor : ∃ i z,TryQ.prog.info? 72 = some i /\ i.zero = some z /\ i.size = 8 /\ i.bytes = 64 /\ z.cells.size = 8:=by
 have e8 : (TryQ.prog.info? 72).map (·.size) = some 8:=by kernel_rfl
 have e64 : (TryQ.prog.info? 72).map (·.bytes) = some 64:=by kernel_rfl
 have ez : ((TryQ.prog.info? 72).bind (·.zero)).map (·.cells.size) = some 8:=by kernel_rfl
 obtain ⟨i,hi⟩ : ∃ i,TryQ.prog.info? 72 = some i:=by
  cases h : TryQ.prog.info? 72 with
  | none=>rw [h] at e8; cases e8
  | some i=>exact ⟨i,rfl⟩
 rw [hi] at e8 e64 ez
 replace ez : i.zero.map (·.cells.size) = some 8:=ez
 cases hz : i.zero with
 | none=>rw [hz] at ez; cases ez
 | some z=>rw [hz] at ez; exact ⟨i,z,hi,hz,Option.some.inj e8,Option.some.inj e64,Option.some.inj ez⟩
theorem Ed {W : World} {base size n : Nat} {e : TypeId} {v : Value} {xs : List Value} (h : W.ownsRow base e size v n xs) : ∀ g,v.ownBlock = some g -> g < W.heap.size:=fun g hg=>by
 rcases h.2 with ⟨rfl,_⟩ | ⟨g',cap,cur,rfl,_,hb,_⟩
 ·cases hg
 ·cases hg; exact (Array.getElem?_eq_some_iff.1 hb).1
theorem Ng {W W' : World} {base size n : Nat} {e : TypeId} {v : Value} {xs : List Value} {r : Option Nat} (h : W.ownsRow base e size v n xs) (hg : W.grownBy W' r) (hr : ∀ g,v.ownBlock = some g -> r ≠ some g) : W'.ownsRow base e size v n xs:=by
 have hl:=Ed h
 refine ⟨h.1,h.2.imp id ?_⟩
 rintro ⟨g,cap,cur,h1,h2,h3,h4⟩
 subst h1
 exact ⟨g,cap,cur,rfl,h2,(hg.block g (hl g rfl) (fun e=>hr g rfl e.symm)).trans h3,h4⟩
theorem Xz {W : World} {base base' size n : Nat} {e : TypeId} {v : Value} {xs : List Value} (h : W.ownsRow base e size v n xs) (hb : base' <= base) : W.ownsRow base' e size v n xs :=
 ⟨h.1,h.2.imp id fun ⟨g,cap,cur,h1,h2,h3⟩=>⟨g,cap,cur,h1,Nat.le_trans hb h2,h3⟩⟩
theorem Aot : ∃ i z,TryQ.prog.info? 52 = some i /\ i.zero = some z /\ i.size = 8 /\ i.bytes = 88 /\ z.cells.size = 8:=by
 have e8 : (TryQ.prog.info? 52).map (·.size) = some 8:=by kernel_rfl
 have e64 : (TryQ.prog.info? 52).map (·.bytes) = some 88:=by kernel_rfl
 have ez : ((TryQ.prog.info? 52).bind (·.zero)).map (·.cells.size) = some 8:=by kernel_rfl
 obtain ⟨i,hi⟩ : ∃ i,TryQ.prog.info? 52 = some i:=by
  cases h : TryQ.prog.info? 52 with
  | none=>rw [h] at e8; cases e8
  | some i=>exact ⟨i,rfl⟩
 rw [hi] at e8 e64 ez
 replace ez : i.zero.map (·.cells.size) = some 8:=ez
 cases hz : i.zero with
 | none=>rw [hz] at ez; cases ez
 | some z=>rw [hz] at ez; exact ⟨i,z,hi,hz,Option.some.inj e8,Option.some.inj e64,Option.some.inj ez⟩
def Ez : List (Bt × SV) -> List Value
 | []=>[]
 | p :: es=>Am p.1 p.2 ++ Ez es
theorem Amn (d : Bt) (s : SV) : ∀ v ∈ Am d s,v.oneCell' = true:=fun v h=>by
 simp only [Am,List.mem_cons,List.not_mem_nil,or_false] at h
 rcases h with h | h | h | h | h | h | h | h <;> rw [h] <;> rfl
theorem Mh : ∀ (a b : List (Bt × SV)),Ez (a ++ b) = Ez a ++ Ez b
 | [],_=>rfl
 | p :: a,b=>by rw [List.cons_append,Ez,Ez,Mh a b,List.append_assoc]
def kept (ss : List (Nat × Nat)) : List (Nat × Nat):=ss.filter fun q=>decide (q.2 ≠ 0)
theorem Afw (ss : List (Nat × Nat)) (c : Nat) (hc : c < ss.length) (h : ¬ ss[c].2 = 0) : kept (ss.take (c + 1)) = kept (ss.take c) ++ [ss[c]]:=by
 have e : List.filter (fun q : Nat × Nat=>decide (q.2 ≠ 0)) [ss[c]] = [ss[c]]:=by simp [List.filter,h]
 unfold kept
 rw [<- List.take_append_getElem hc,List.filter_append,e]
theorem Afx (ss : List (Nat × Nat)) (c : Nat) (hc : c < ss.length) (h : ss[c].2 = 0) : kept (ss.take (c + 1)) = kept (ss.take c):=by
 have e : List.filter (fun q : Nat × Nat=>decide (q.2 ≠ 0)) [ss[c]] = []:=by simp [List.filter,h]
 unfold kept
 rw [<- List.take_append_getElem hc,List.filter_append,e,List.append_nil]
theorem Mg : ∀ (a b : List (Nat × Nat)),Dq (a ++ b) = Dq a ++ Dq b
 | [],_=>rfl
 | p :: a,b=>by rw [List.cons_append,Dq,Dq,Mg a b,List.append_assoc]
abbrev Xs (W V : World) (d : Bt) (vS : SV) (c : Nat) : Prop:=Below V.heap.size V W /\ V.heap.size < W.heap.size /\ CellsAt W V.heap.size 0 (Am d vS) /\ W.there V.heap.size 0 8 /\ W.ownsRow (V.heap.size + 1) 72 8 (.slice vS.a vS.n vS.c) (kept (d.slots.take c)).length (Dq (kept (d.slots.take c)))
def kp (d : Bt) : Bt:={ d with slots:=kept d.slots }
structure Ys (w W : World) (pb : Nat) (ds : List (Bt × SV)) (k : Nat) (vA : SV) (es : List (Bt × SV)) : Prop where
 below : Below w.heap.size w W
 lo : w.heap.size <= pb
 lt : pb < W.heap.size
 cell : W.cell? ⟨pb,0,none⟩ = some (.slice vA.a vA.n vA.c)
 rest : CellsAt W pb 1 [.int .i64 0,.slice none 0 0,.int .i64 0,.slice none 0 0]
 fz : W.frozen? ⟨pb,0,none⟩ = false
 own : W.ownsRow (pb + 1) 52 8 (.slice vA.a vA.n vA.c) k (Ez es)
 lst : es.map (·.1) = (ds.take k).map fun p=>kp p.1
 sl : ∀ p ∈ es,W.ownsRow (pb + 1) 72 8 (.slice p.2.a p.2.n p.2.c) p.1.slots.length (Dq p.1.slots) /\ ∀ g,(Value.slice p.2.a p.2.n p.2.c).ownBlock = some g -> (Value.slice vA.a vA.n vA.c).ownBlock ≠ some g
theorem eqz (n : Nat) (h : n < M) (W : World) : (Op.equalIn 10000 41 (wd n) (.agg wz)).run TryQ.prog W = .ok (decide (n = 0)) W:=by
 have:=Vn n 0 h (by decide) W
 have e : wd 0 = .agg wz:=by simp [wd,lim]
 rw [e] at this
 exact this
end Go.Mark
namespace Go.Mark
section
variable {α : Type} (f : α -> Int)
def U0 (x : α) : List α -> List α
 | []=>[x]
 | y :: l=>if f x < f y then x :: y :: l else y :: U0 x l
def srt (l : List α) : List α:=l.foldr (U0 f) []
abbrev Up (l : List α) : Prop:=l.Pairwise fun a b=>f a < f b
theorem Nr (x : α) : ∀ l : List α,(U0 f x l).Perm (x :: l)
 | []=>.refl _
 | y :: l=>by
  unfold U0
  split
  ·exact .refl _
  ·exact ((Nr x l).cons y).trans (.swap x y l)
theorem Jb : ∀ l : List α,(srt f l).Perm l
 | []=>.refl _
 | x :: l=>(Nr f x (srt f l)).trans ((Jb l).cons x)
theorem Adc (x : α) : ∀ l : List α,Up f l -> (∀ y ∈ l,f x ≠ f y) -> Up f (U0 f x l)
 | [],_,_=>by simp [U0]
 | y :: l,h,hx=>by
  unfold U0
  have h':=List.pairwise_cons.1 h
  split
  ·rename_i hl
   exact List.pairwise_cons.2 ⟨fun z hz=>by
    rcases List.mem_cons.1 hz with rfl | hz
    ·exact hl
    ·exact Int.lt_trans hl (h'.1 z hz),h⟩
  ·rename_i hl
   refine List.pairwise_cons.2 ⟨fun z hz=>?_,Adc x l h'.2 fun z hz=>hx z (List.mem_cons_of_mem _ hz)⟩
   rcases List.mem_cons.1 ((Nr f x l).mem_iff.1 hz) with rfl | hz
   ·have:=hx y (List.mem_cons_self ..)
    omega
   ·exact h'.1 z hz
theorem Aab : ∀ l : List α,(l.map f).Nodup -> Up f (srt f l)
 | [],_=>by simp [srt]
 | x :: l,h=>by
  have h':=List.nodup_cons.1 h
  refine Adc f x (srt f l) (Aab l h'.2) fun y hy e=>h'.1 ?_
  rw [e]
  exact List.mem_map_of_mem ((Jb f l).mem_iff.1 hy)
variable {f}
theorem Nb : ∀ {l m : List α},l.Perm m -> Up f l -> Up f m -> l = m
 | [],m,h,_,_=>(List.nil_perm.1 h).symm
 | x :: l,[],h,_,_=>by simp at h
 | x :: l,y :: m,h,hl,hm=>by
  have hl':=List.pairwise_cons.1 hl
  have hm':=List.pairwise_cons.1 hm
  have e : x = y:=by
   rcases List.mem_cons.1 (h.mem_iff.1 (List.mem_cons_self ..)) with e | e
   ·exact e
   ·rcases List.mem_cons.1 (h.mem_iff.2 (List.mem_cons_self ..)) with e' | e'
    ·exact e'.symm
    ·have:=hm'.1 x e
     have:=hl'.1 y e'
     omega
  subst e
  rw [Nb (List.perm_cons x |>.1 h) hl'.2 hm'.2]
abbrev down (l : List α) (x : α) (j : Nat) : List α:=l.take j ++ x :: l.drop j
end
end Go.Mark
namespace Go.Mark
open Go.RowKit Go.Proofs
def Ago (xs : List Value) : Nat -> List Value -> List Value
 | _,[]=>xs
 | o,u :: l=>Ago (xs.set o u) (o + 1) l
theorem Aa1 : ∀ (l a xs : List Value) (o : Nat),Ago (a ++ xs) (a.length + o) l = a ++ Ago xs o l
 | [],_,_,_=>rfl
 | u :: l,a,xs,o=>by
  rw [Ago,Ago,List.set_append_right _ _ (by omega),Nat.add_sub_cancel_left,Nat.add_assoc,Aa1 l]
theorem Af0 : ∀ l : List (Bt × SV),(Ez l).length = l.length * 8
 | []=>rfl
 | p :: l=>by rw [Ez,List.length_append,Af0 l,List.length_cons]; show 8 + _ = _; omega
def sK (d : Bt) : Bt:={ d with slots:=srt (fun q=>(q.1 : Int)) d.slots }
def told (ds : List Bt) : List Bt:=srt (·.id) (ds.map sK)
end Go.Mark
/-! ledger.keptSlots: the slots of an account as a map. -/
namespace Go.Mark
open Go.RowKit Go.Proofs
theorem Lf {κ : Type} [DecidableEq κ] (k : κ) (v : Value) : ∀ l : List (κ × Value),k ∉ l.map (·.1) -> Gy k v l = l ++ [(k,v)]
 | [],_=>rfl
 | p :: l,h=>by
  have h1 : k ≠ p.1:=fun e=>h (by simp [e])
  have h2 : k ∉ l.map (·.1):=fun e=>h (by rw [List.map_cons]; exact List.mem_cons_of_mem _ e)
  rw [Gy,if_neg h1,Lf k v l h2]
  rfl
def Od (ss : List (Nat × Nat)) : List (Nat × Value):=(kept ss).map fun q=>(q.1,wd q.2)
theorem Uj (ss : List (Nat × Nat)) (k : Nat) (h : k ∈ (Od ss).map (·.1)) : ∃ q ∈ ss,q.1 = k:=by
 simp only [Od,List.map_map] at h
 obtain ⟨q,hq,rfl⟩:=List.mem_map.1 h
 exact ⟨q,(List.mem_filter.1 hq).1,rfl⟩
theorem Qs {mt : TypeId} (w : World) : (Instr.makeMap mt none).run TryQ.prog w = .ok (.map (some w.heap.size)) (w.alloc (.map #[] 0)):=by
 unfold Instr.makeMap
 simp
end Go.Mark
namespace Go.Mark
open Go.RowKit Go.Proofs
theorem Vo {W : World} {base size g n m cap : Nat} {e : TypeId} {xs ys : List Value} (h : W.ownsRow base e size (.slice (some ⟨g,0,none⟩) (n + m) cap) (n + m) (xs ++ ys)) (hx : xs.length = n * size) : W.ownsRow base e size (.slice (some ⟨g,0,none⟩) n cap) n xs:=by
 rcases h.2 with ⟨h',_⟩ | ⟨g',cap',cur,h',hb,hg,hnc,hcm,hcs,ht⟩
 ·simp at h'
 ·simp only [Value.slice.injEq,Option.some.injEq,Addr.mk.injEq,and_true,true_and] at h'
  obtain ⟨rfl,rfl⟩:=h'
  refine ⟨hx,.inr ⟨g,cap,cur,rfl,hb,hg,by omega,hcm,hcs,?_⟩⟩
  have e1 : cur.toList.take (n * size) = (cur.toList.take ((n + m) * size)).take (n * size):=by
   rw [List.take_take,Nat.min_eq_left (Nat.mul_le_mul_right _ (by omega))]
  rw [e1,ht,<- hx,List.take_left]
theorem Pf {P : Program} (w : World) (t ty : TypeId) (base : Nat) (e : TypeId) (i : TypeInfo) (z : Value) (size bytes : Nat) (ht : P.underlying t = some (.slice e)) (hi : P.info? e = some i) (hz : i.zero = some z)
  (hsize : i.size = size) (hby : i.bytes = bytes) (hzs : z.cells.size = size) (hsz : 0 < size)
  (v : Value) (n : Nat) (xs : List Value) (hown : w.ownsRow base e size v n xs)
  (ad : Addr) (m c : Nat) (news : List Value) (hl : news.length = m * size) (hnews : ∀ j u,news[j]? = some u -> w.cell? (ad.add j) = some u) (h1 : ∀ u ∈ news,u.oneCell' = true)
  (hm : 0 < m) (h63 : n + m <= maxLen) (hbytes : (n + m) * bytes <= 140737488355328) (hbase : base <= w.heap.size) (H : Nat) (hH : w.heap.size = H) :
  ∃ g cap w',(Builtin.append_ #[t,t] ty #[v,.slice (some ad) m c]).run P w = .ok (.slice (some ⟨g,0,none⟩) (n + m) cap) w' /\
   w'.ownsRow base e size (.slice (some ⟨g,0,none⟩) (n + m) cap) (n + m) (xs ++ news) /\ w.grownBy w' v.ownBlock /\ (v.ownBlock = some g \/ g = H) /\ g < w'.heap.size /\ w'.ownsRow base e size v n xs:=by
 obtain ⟨g,cap,w',hr,h2,h3,h4,h5⟩:=run_append_lies (P:=P) w t ty base e i z size bytes ht hi hz hsize hby hzs hsz v n xs hown ad m c news hl hnews h1 hm h63 hbytes hbase H hH
 refine ⟨g,cap,w',hr,h2,h3,h4,h5,?_⟩
 rcases hown.2 with ⟨rfl,rfl⟩ | ⟨g0,cap0,cur,rfl,hbg,hg,hnc,hcm,hcs,htake⟩
 ·exact ⟨hown.1,.inl ⟨rfl,rfl⟩⟩
 ·by_cases hroom : n + m <= cap0
  ·obtain ⟨w2,hr2,ho2,_⟩:=run_append_fits (P:=P) w base t ty e i size ht hi hsize g0 n cap0 xs hown ad m c news hl hnews h1 hroom
   rw [hr] at hr2
   simp only [Result.ok.injEq,Value.slice.injEq,Option.some.injEq,Addr.mk.injEq,and_true,true_and] at hr2
   obtain ⟨⟨rfl,rfl⟩,rfl⟩:=hr2
   exact Vo h2 hown.1
  ·have hsmall : n + m <= 9223372036854775807:=by simp only [maxLen] at h63; omega
   have hr2:=run_append_grow (P:=P) w t ty e i z ht hi hz ⟨g0,0,none⟩ n cap0 xs (by rw [hsize]; exact hown.1) (hown.cells (g:=g0) rfl) ad m c news (by rw [hsize]; exact hl) hnews (by omega) (by omega) (growslice_fits (by omega) (by rw [hby]; exact hbytes))
   rw [hr] at hr2
   injection hr2 with _ hw
   rw [hw]
   exact own_below (W:=w) hown ((Below.refl _ _).drew.alloc (Nat.le_refl _) _)
theorem Fb {P : Program} (w : World) {o : Oper} {a : Act} {K : Act -> World -> Prop} {Q : Exit -> Act -> World -> Prop} (s x : Operand) (t : TypeId)
  (ho : o.op = .call { callee:=.builtin .append,args:=#[s,x],argTypes:=#[t,t] })
  (base : Nat) (e : TypeId) (i : TypeInfo) (z : Value) (size bytes : Nat) (ht : P.underlying t = some (.slice e)) (hi : P.info? e = some i) (hz : i.zero = some z)
  (hsize : i.size = size) (hby : i.bytes = bytes) (hzs : z.cells.size = size) (hsz : 0 < size)
  (v : Value) (n : Nat) (xs : List Value) (hs : a.eval s = v) (hown : w.ownsRow base e size v n xs)
  (ad : Addr) (m c : Nat) (news : List Value) (hx : a.eval x = .slice (some ad) m c) (hl : news.length = m * size) (hnews : ∀ j u,news[j]? = some u -> w.cell? (ad.add j) = some u) (h1 : ∀ u ∈ news,u.oneCell' = true)
  (hm : 0 < m) (h63 : n + m <= maxLen) (hbytes : (n + m) * bytes <= 140737488355328) (hbase : base <= w.heap.size) (H : Nat) (hH : w.heap.size = H)
  (h : ∀ g cap w',w'.ownsRow base e size (.slice (some ⟨g,0,none⟩) (n + m) cap) (n + m) (xs ++ news) -> w.grownBy w' v.ownBlock -> (v.ownBlock = some g \/ g = H) -> g < w'.heap.size -> w'.ownsRow base e size v n xs -> K (a.put o.dst (.slice (some ⟨g,0,none⟩) (n + m) cap)) w') : o.wp P a w K Q:=by
 obtain ⟨g,cap,w',hr,h2,h3,h4,h5,h6⟩:=Pf (P:=P) w t o.type base e i z size bytes ht hi hz hsize hby hzs hsz v n xs hown ad m c news hl hnews h1 hm h63 hbytes hbase H hH
 unfold Oper.wp execOp
 simp only [ho,resolve,invoke,builtin,Sem.run_bind,Sem.run_pure,Result.andThen_ok,List.map_toArray,List.map_cons,List.map_nil,hs,hx,hr]
 exact h g cap w' h2 h3 h4 h5 h6
theorem Gw {P : Program} (w : World) {ops : Array Oper} {rest : List Oper} {o : Oper} {a : Act} {Q : Exit -> Act -> World -> Prop} (hgd : o.guard = none) (s x : Operand) (t : TypeId)
  (ho : o.op = .call { callee:=.builtin .append,args:=#[s,x],argTypes:=#[t,t] })
  (base : Nat) (e : TypeId) (i : TypeInfo) (z : Value) (size bytes : Nat) (ht : P.underlying t = some (.slice e)) (hi : P.info? e = some i) (hz : i.zero = some z)
  (hsize : i.size = size) (hby : i.bytes = bytes) (hzs : z.cells.size = size) (hsz : 0 < size)
  (v : Value) (n : Nat) (xs : List Value) (hs : a.eval s = v) (hown : w.ownsRow base e size v n xs)
  (ad : Addr) (m c : Nat) (news : List Value) (hx : a.eval x = .slice (some ad) m c) (hl : news.length = m * size) (hnews : ∀ j u,news[j]? = some u -> w.cell? (ad.add j) = some u) (h1 : ∀ u ∈ news,u.oneCell' = true)
  (hm : 0 < m) (h63 : n + m <= maxLen) (hbytes : (n + m) * bytes <= 140737488355328) (hbase : base <= w.heap.size) (H : Nat) (hH : w.heap.size = H)
  (h : ∀ g cap w',w'.ownsRow base e size (.slice (some ⟨g,0,none⟩) (n + m) cap) (n + m) (xs ++ news) -> w.grownBy w' v.ownBlock -> (v.ownBlock = some g \/ g = H) -> g < w'.heap.size -> w'.ownsRow base e size v n xs -> wpList P ops Q rest (a.put o.dst (.slice (some ⟨g,0,none⟩) (n + m) cap)) w') : wpList P ops Q (o :: rest) a w :=
 wpList_plain hgd fun _ hK=>Fb w s x t ho base e i z size bytes ht hi hz hsize hby hzs hsz v n xs hs hown ad m c news hx hl hnews h1 hm h63 hbytes hbase H hH fun g cap w' h2 h3 h4 h5 h6=>hK _ _ (h g cap w' h2 h3 h4 h5 h6)
structure Kept (X : Nat -> Prop) (w w' : World) : Prop where
 os : w'.os = w.os
 tape : w'.tape = w.tape
 output : w'.output = w.output
 size : w.heap.size <= w'.heap.size
 block : ∀ k,k < w.heap.size -> ¬ X k -> w'.heap[k]? = w.heap[k]?
theorem Kept.refl (X : Nat -> Prop) (w : World) : Kept X w w:=⟨rfl,rfl,rfl,Nat.le_refl _,fun _ _ _=>rfl⟩
theorem Ab4 {w v : World} {r : Option Nat} (h : w.grownBy v r) : Kept (fun g=>r = some g) w v:=⟨h.os,h.tape,h.output,h.size,fun k hk hn=>h.block k hk (fun e=>hn e.symm)⟩
theorem W9 (w : World) (p : Addr) (u : Value) : Kept (fun g=>g = p.block) w (w.setCell p u) :=
 ⟨rfl,rfl,rfl,by simp,fun k _ hn=>heap_setCell_other w p k u hn⟩
theorem Cw {W W' : World} {base size n : Nat} {e : TypeId} {v : Value} {xs : List Value} (h : W.ownsRow base e size v n xs) (hs : ∀ g,v.ownBlock = some g -> W'.heap[g]? = W.heap[g]?) : W'.ownsRow base e size v n xs:=by
 refine ⟨h.1,h.2.imp id ?_⟩
 rintro ⟨g,cap,cur,h1,h2,h3,h4⟩
 subst h1
 exact ⟨g,cap,cur,rfl,h2,(hs g rfl).trans h3,h4⟩
theorem Cj {W : World} {base size n : Nat} {e : TypeId} {v : Value} {xs : List Value} (h : W.ownsRow base e size v n xs) : ∀ g,v.ownBlock = some g -> ∃ cur,W.heap[g]? = ob cur e:=fun g hg=>by
 rcases h.2 with ⟨rfl,_⟩ | ⟨g',cap,cur,rfl,_,h3,_⟩
 ·cases hg
 ·cases hg; exact ⟨cur,h3⟩
end Go.Mark
