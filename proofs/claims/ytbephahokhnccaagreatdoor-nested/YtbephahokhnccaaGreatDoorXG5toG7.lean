import Derived.Test.YtbephahokhnccaaGreatDoorXE7toG4
import Derived.Shelf.SlSortCmp.NoneTotal
set_option maxRecDepth 100000
set_option maxHeartbeats 4000000
namespace Go.Mark
open Go.RowKit Go.Proofs Go.Maps Go.Sort Go.Shelf
abbrev Wd : Type:={ k : Nat // k < M }
instance : Inhabited Wd:=⟨⟨0,by decide⟩⟩
def U3 (x : Wd) : List Value:=wc x.1
def cfW (x y : Wd) : Int:=De (x.1 : Int) (y.1 : Int)
theorem ltW (x y : Wd) : ltOf cfW x y = decide (x.1 < y.1):=by
 unfold ltOf cfW De
 by_cases h1 : (x.1 : Int) < (y.1 : Int)
 ·have h1' : x.1 < y.1:=by omega
  rw [if_pos h1]; simp [h1']
 ·have h1' : ¬ x.1 < y.1:=by omega
  rw [if_neg h1]
  by_cases h2 : (y.1 : Int) < (x.1 : Int) <;> simp [h1',h2]
theorem swoW : SWO (ltOf cfW) where
 irrefl x:=by rw [ltW]; simp
 trans x y z h1 h2:=by rw [ltW] at *; simp at *; omega
 ntrans x y z h1 h2:=by rw [ltW] at *; simp at *; omega
theorem Aj0 (blk off size : Nat) (w : World) : CmpLays TryQ.prog 163 #[] U3 4 cfW blk off size w:=fun _ _ _ _ x y =>
 (Ajn x.1 y.1 x.2 y.2 _).mono fun _ _ ⟨h1,q,os',h2⟩=>⟨h1,q,os',h2⟩
theorem Yl : ∀ (l : List Nat) (i k : Nat),l[i]? = some k -> ∀ c : Nat,c < 4 -> (En l)[i * 4 + c]? = (wc k)[c]?
 | [],_,_,h,_,_=>by simp at h
 | q :: l,0,p,h,j,hj=>by
  cases h
  rw [En,List.getElem?_append_left (by show _ < 4; omega)]
  congr 1; omega
 | q :: l,i + 1,p,h,j,hj=>by
  rw [En,List.getElem?_append_right (by show 4 <= _; omega),<- Yl l i p (by simpa using h) j hj]
  congr 1; show _ - 4 = _; omega
theorem subs : ∀ ss : List Nat,(∀ k ∈ ss,k < M) -> ∃ ds : List Wd,ds.map (·.1) = ss
 | [],_=>⟨[],rfl⟩
 | k :: ss,h=>by
  obtain ⟨ds,hd⟩:=subs ss fun j hj=>h j (List.mem_cons_of_mem _ hj)
  exact ⟨⟨k,h k (List.mem_cons_self ..)⟩ :: ds,by rw [List.map_cons,hd]⟩
theorem Aow {W : World} {base g cap : Nat} {ss : List Nat} {ds : List Wd} (hd : ds.map (·.1) = ss) (h : W.ownsRow base 41 4 (.slice (some ⟨g,0,none⟩) ss.length cap) ss.length (En ss)) : HoldsK U3 4 W g 0 ds.toArray:=by
 have hl : ds.length = ss.length:=by rw [<- hd]; simp
 intro j hj
 rw [size_flatK] at hj
 have hj' : j < ss.length * 4:=by rw [<- hl]; simpa using hj
 rw [Nat.zero_add]
 refine ⟨?_,h.frozenAt j⟩
 rw [h.cellAt j hj',get_flatK _ _ _ _ hj]
 have hi : j / 4 < ds.length:=by omega
 have hk : ss[j / 4]? = some (ds[j / 4]).1:=by rw [<- hd]; simp [hi]
 have:=Yl ss (j / 4) _ hk (j % 4) (Nat.mod_lt _ (by decide))
 have e : j / 4 * 4 + j % 4 = j:=by omega
 rw [e] at this
 rw [this]
 have e2 : (ds.toArray[j / 4]! : Wd) = ds[j / 4]:=by simp [hi]
 rw [e2]
 show (wc _)[j % 4]? = some ((wc _)[j % 4]!)
 have h4 : j % 4 < 4:=Nat.mod_lt _ (by decide)
 generalize j % 4 = c at h4
 rcases c with _ | _ | _ | _ | c <;> first | rfl | omega
structure Aj8 (w w' : World) (l : List (Nat × Value)) (a : Option Addr) (ks : List Nat) : Prop where
 perm : ks.Perm (l.map (·.1))
 up : Up (fun k : Nat=>(k : Int)) ks
 cells : ks = [] \/ ∃ g,a = some ⟨g,0,none⟩ /\ w.heap.size <= g /\ g < w'.heap.size /\ ∀ i k,ks[i]? = some k -> CellsAt w' g (i * 4) (wc k)
 below : Below w.heap.size w w'
theorem Ahz (Bm b : Nat) (l : List (Nat × Value)) (hl : ∀ p ∈ l,p.1 < M) (hnum : l.length < 1000000000) (hnd : (l.map (·.1)).Nodup) (w : World) (hBm : Bm < w.heap.size) (hm : w.cell? ⟨Bm,0,none⟩ = some (.map (some b))) (hM : MapB wd w b l) :
  Calls TryQ.prog 161 #[.func (.func 204) #[] #[pq Bm 0],.func (.func 163) #[] #[]] w fun e w'=>∃ (a : Option Addr) (cap : Nat) (ks : List Nat),e = .returned (.slice a ks.length cap) /\ Aj8 w w' l a ks:=by
 have hcol:=(callsIn_wide (n:=3)).1 (Agb 3 (by omega) 204 #[pq Bm 0] (enters_of TryQ.func204 (by kernel_rfl) rfl) _ l.length hnum w (Wz 1 (by omega) Bm b l hl w hBm hm hM))
 go_enter TryQ.func161,Tryz.ntmps161
 go_wp2_with fail
 refine hcol.mono ?_
 rintro e w1 ⟨v,ss,rfl,hperm,hown,hb1⟩
 have hssM : ∀ k ∈ ss,k < M:=fun k hk=>by
  obtain ⟨p,hp,rfl⟩:=List.mem_map.1 (hperm.mem_iff.1 hk)
  exact hl p hp
 have hslen : Shut (ss.length = l.length):=by have:=hperm.length_eq; simpa [Shut] using this
 have hslt : ss.length < 1000000000:=by rw [hslen.out]; exact hnum
 rcases hown.2 with ⟨rfl,h0⟩ | ⟨g,cap,cur,rfl,hbg,hgb,hnc,hcm,_,_⟩
 ·have hss : ss = []:=List.eq_nil_of_length_eq_zero h0
  subst hss
  have hno : Calls TryQ.prog 203 #[.slice none 0 0,.func (.func 163) #[] #[]] w1 fun e w'=>e = .returned (.tuple #[]) /\ w' = w1:=AnyF.slices_SortFunc_none TryQ.sortW none 0 _ w1
  go_wp2_with fail
  refine hno.mono ?_
  rintro e w2 ⟨rfl,rfl⟩
  go_wp2_with fail
  simp [bodyPost,results,Tryz.results161,go_sem]
  exact ⟨none,0,[],by simp,hperm,List.Pairwise.nil,.inl rfl,hb1⟩
 ·obtain ⟨ds,hds⟩:=subs ss hssM
  have hdl : ds.length = ss.length:=by rw [<- hds]; simp
  have hH:=Aow hds hown
  have hgl : g < w1.heap.size:=(Array.getElem?_eq_some_iff.1 hgb).1
  have hso:=AnyQ.slices_SortFunc TryQ.sortW 4 (fun w=>(Ak 41 w).trans (Tryz.isAgg41 w)) (fun w=>(Ag 41 w).trans (Tryz.sizeOf41 w)) U3 (fun _=>rfl) (fun x v hv=>by simp only [U3,wc,List.mem_cons,List.not_mem_nil,or_false] at hv; rcases hv with rfl | rfl | rfl | rfl <;> rfl) cfW swoW 163 #[] g 0 cap ds.toArray w1 (enters_of TryQ.func163 (by kernel_rfl) rfl) (Aj0 _ _ _ _) hH hgl (by simp; omega)
  have e1 : ds.toArray.size = ss.length:=by simpa using hdl
  rw [e1] at hso
  change Calls TryQ.prog 203 _ _ _ at hso
  go_wp2_with fail
  refine hso.mono ?_
  rintro e w2 ⟨rfl,d',n,os,hp,hs,hw2⟩
  have hperm2 : d'.toList.Perm ds:=by
   have h1:=hp.2.2
   have h2 : d'.size = ss.length:=by rw [hp.1]; exact e1
   rw [<- h2] at h1
   have h3 : ds.toArray.extract 0 d'.size = ds.toArray:=by rw [h2,<- e1]; simp
   rw [h3] at h1
   simpa using h1
  have hd's : d'.size = ss.length:=by rw [hp.1]; exact e1
  have hks : (d'.toList.map (·.1)).Perm ss:=by rw [<- hds]; exact hperm2.map _
  have hup : Up (fun k : Nat=>(k : Int)) (d'.toList.map (·.1)):=by
   have hnd' : (d'.toList.map (·.1)).Nodup:=(hks.trans hperm).nodup_iff.2 hnd
   refine List.pairwise_iff_getElem.2 fun i j hi hj hij=>?_
   have hj' : j < d'.size:=by simpa using hj
   have hi' : i < d'.size:=by omega
   have h1:=hs i j (Nat.zero_le _) hij (by omega)
   rw [ltW] at h1
   have h2:=List.pairwise_iff_getElem.1 hnd' i j hi hj hij
   simp only [List.getElem_map,Array.getElem_toList] at h2 ⊢
   have h3 : d'[j]! = d'[j]:=getElem!_pos d' j hj'
   have h4 : d'[i]! = d'[i]:=getElem!_pos d' i hi'
   rw [h3,h4] at h1
   have:=of_decide_eq_false h1
   omega
  have hkl : (d'.toList.map (·.1)).length = ss.length:=by simp [hd's]
  have hH2:=holdsK_sortWorldK_c U3 4 w1 g 0 ds.toArray d' n os hH hgl (by rw [hd's,e1])
  have hb2 : Below w.heap.size w w2:=by
   rw [hw2]
   refine hb1.trans ⟨rfl,rfl,rfl,size_sortWorldK_c U3 4 w1 g 0 n d' os,fun k hk=>?_⟩
   have hk1 : k < w1.heap.size:=Nat.lt_of_lt_of_le hk hb1.size
   have hkg : g ≠ k:=by omega
   show ((putRowK U3 4 (Sort.ahead w1 n) g 0 d').heap ++ os)[k]? = _
   have hsz : k < (putRowK U3 4 (Sort.ahead w1 n) g 0 d').heap.size:=by simpa [putRowK,putRow,mapBlock,Sort.ahead] using hk1
   rw [Array.getElem?_append_left hsz]
   show (w1.heap.modify g _)[k]? = _
   rw [Array.getElem?_modify,if_neg hkg]
  rw [<- hw2] at hH2
  have hg2 : g < w2.heap.size:=by have:=size_sortWorldK_c U3 4 w1 g 0 n d' os; rw [<- hw2] at this; omega
  clear hw2 hH
  go_wp2_with fail
  simp [bodyPost,results,Tryz.results161,go_sem]
  refine ⟨some ⟨g,0,none⟩,cap,d'.toList.map (·.1),?_,hks.trans hperm,hup,.inr ⟨g,rfl,hbg,hg2,fun i k hk c u hu=>?_⟩,hb2⟩
  ·simp [hd's]
  ·have hi : i < d'.size:=by have:=(List.getElem?_eq_some_iff.1 hk).1; simpa using this
   have hc : c < 4:=(List.getElem?_eq_some_iff.1 hu).1
   have h1:=(hH2.cell hi hc).1
   rw [Nat.zero_add] at h1
   rw [h1]
   have h3 : d'[i]! = d'[i]:=getElem!_pos d' i hi
   have h4 : d'[i].1 = k:=by
    have:=hk
    simp [hi] at this
    exact this
   rw [h3]
   show some ((wc d'[i].1)[c]!) = some u
   rw [h4]
   have h5:=(List.getElem?_eq_some_iff.1 hu).2
   rw [<- h5,getElem!_pos (wc k) c hc]
   rfl
end Go.Mark
/-! The law's small functions: same,why; the document's less. -/
namespace Go.Mark
open Go.RowKit Go.Proofs
structure T2 (w W : World) (a b : Nat) : Prop where
 below : Below w.heap.size w W
 x : CellsAt W w.heap.size 0 [.int .u64 (lim a 0),.int .u64 (lim a 1),.int .u64 (lim a 2),.int .u64 (lim a 3)]
 y : CellsAt W (w.heap.size + 1) 0 [.int .u64 (lim b 0),.int .u64 (lim b 1),.int .u64 (lim b 2),.int .u64 (lim b 3)]
end Go.Mark
namespace Go.Mark
open Go.RowKit Go.Proofs
abbrev SV.blk (s : SV) : Option Nat:=(Value.slice s.a s.n s.c).ownBlock
structure Xr (V W : World) (d : Bt) (vS : SV) (ls : List (Nat × Nat)) : Prop where
 below : Below V.heap.size V W
 lt : V.heap.size < W.heap.size
 cells : CellsAt W V.heap.size 0 (Am d vS)
 th : W.there V.heap.size 0 8
 own : W.ownsRow (V.heap.size + 1) 72 8 (.slice vS.a vS.n vS.c) ls.length (Dq ls)
structure Ro (w W : World) (es : List (Bt × SV)) (vO : SV) (os : List (Bt × SV)) (k : Nat) : Prop where
 below : Below w.heap.size w W
 num : os.length = k
 own : W.ownsRow w.heap.size 52 8 (.slice vO.a vO.n vO.c) k (Ez os)
 sl : ∀ p ∈ os,W.ownsRow w.heap.size 72 8 (.slice p.2.a p.2.n p.2.c) p.1.slots.length (Dq p.1.slots)
 far : ∀ p ∈ os,∀ g,p.2.blk = some g -> vO.blk ≠ some g
 apart : os.Pairwise fun p q=>∀ g,p.2.blk = some g -> q.2.blk ≠ some g
 perm : (os.map (·.1)).Perm ((es.take k).map fun p=>sK p.1)
 up : Up (fun p=>p.1.id) os
structure Lists (B : Nat) (W : World) (v : SV) (os : List (Bt × SV)) : Prop where
 own : W.ownsRow B 52 8 (.slice v.a v.n v.c) os.length (Ez os)
 sl : ∀ p ∈ os,W.ownsRow B 72 8 (.slice p.2.a p.2.n p.2.c) p.1.slots.length (Dq p.1.slots)
 far : ∀ p ∈ os,∀ g,p.2.blk = some g -> v.blk ≠ some g
 apart : os.Pairwise fun p q=>∀ g,p.2.blk = some g -> q.2.blk ≠ some g
structure Rq (w W : World) (g k n : Nat) (l m : List (Bt × SV)) : Prop where
 below : Below w.heap.size w W
 own : W.ownsRow w.heap.size 52 8 (.slice (some ⟨g,0,none⟩) (k + 1) n) (k + 1) (Ez l)
 sl : ∀ p ∈ m,W.ownsRow w.heap.size 72 8 (.slice p.2.a p.2.n p.2.c) p.1.slots.length (Dq p.1.slots)
theorem Qp (ss : List (Nat × Nat)) : (slotL ss).map (·.1) = ss.map (·.1):=by unfold slotL; rw [List.map_map]; rfl
theorem Uq : ∀ (ss : List (Nat × Nat)) (i : Nat) (p : Nat × Nat),(ss.map (·.1)).Nodup -> p ∈ ss -> ∃ j,Ct p.1 (slotL ss) i = some (j,wd p.2)
 | [],_,_,_,h=>by cases h
 | q :: ss,i,p,hn,h=>by
  have hn':=List.nodup_cons.1 hn
  show ∃ j,Ct p.1 ((q.1,wd q.2) :: slotL ss) i = _
  unfold Ct
  by_cases hk : p.1 = q.1
  ·rcases List.mem_cons.1 h with rfl | h
   ·exact ⟨i,by rw [if_pos rfl]⟩
   ·exact absurd (by have h2:=List.mem_map_of_mem (f:=fun x : Nat × Nat=>x.1) h; rw [hk] at h2; exact h2) hn'.1
  ·rcases List.mem_cons.1 h with rfl | h
   ·exact absurd rfl hk
   ·rw [if_neg hk]
    exact Uq ss (i + 1) p hn'.2 h
theorem Anh : (zeroValue 41).run TryQ.prog = fun w=>.ok (wd 0) w:=by
 funext w
 have e : wd 0 = .agg wz:=by simp [wd,lim]
 rw [e,Af]
 exact Tryz.zeroValue41 w
theorem Ad6 (ss : List (Nat × Nat)) (pa ms : Nat) (w : World) (hpa : w.cell? ⟨pa,7,none⟩ = some (.map (some ms))) (hpl : pa < w.heap.size) (hM : MapB wd w ms (slotL ss)) (hk : ∀ p ∈ ss,p.1 < M /\ p.2 < M) (hnd : (ss.map (·.1)).Nodup) (hnum : ss.length < 1000000) :
  Calls TryQ.prog 105 #[pq pa 0] w fun e w'=>∃ v : SV,e = .returned (.slice v.a v.n v.c) /\ w'.ownsRow w.heap.size 72 8 (.slice v.a v.n v.c) ss.length (Dq (srt (fun q=>(q.1 : Int)) ss)) /\ Below w.heap.size w w':=by
 obtain ⟨i57,z57,hi57,hz57,hs57,hb57,hzs57⟩:=Aor
 have hlen:=Iq u91 hM.mapL
 have hsl : (slotL ss).length = ss.length:=by simp [slotL]
 rw [hsl] at hlen
 obtain ⟨w1,hmk,hown1,hg1⟩:=run_make_own (P:=TryQ.prog) w w.heap.size 50 72 i57 z57 8 ((Ab 50).trans Tryz.underlying50) hi57 hz57 hs57 .i64 .i64 ss.length (by rw [hb57]; omega) (by simp [maxLen]; omega) (Nat.le_refl _)
 have hb1 : Below w.heap.size w w1:=⟨hg1.os,hg1.tape,hg1.output,hg1.size,fun k hk=>hg1.block k hk (by simp)⟩
 have hpa1:=(hb1.cell (p:=⟨pa,7,none⟩) hpl).trans hpa
 have hgl1 : w.heap.size < w1.heap.size:=Ed hown1 _ rfl
 have cK:=fun mb W=>(callsIn_wide (n:=5)).1 (Aoo 5 mb W)
 go_enter TryQ.func105,Tryz.ntmps105
 go_wp2_with fail
 refine (cK (some ms) w1).mono ?_
 rintro e w2 ⟨rfl,hw2⟩
 have hb2 : Below w1.heap.size w1 w2:=by rw [hw2]; exact ba
 have hBm : w2.cell? ⟨w1.heap.size,0,none⟩ = some (.map (some ms)):=by rw [hw2,World.cell?_alloc_new]; rfl
 have hBl : w1.heap.size < w2.heap.size:=by rw [hw2]; simp
 have hM2:=(hM.below hb1).below hb2
 have hso:=Ahz w1.heap.size ms (slotL ss) (fun p hp=>by obtain ⟨q,hq,rfl⟩:=List.mem_map.1 hp; exact (hk q hq).1) (by rw [hsl]; omega) (by rw [Qp]; exact hnd) w2 hBl hBm hM2
 have hown2:=own_below hown1 hb2
 clear hw2
 go_wp2_with fail
 refine hso.mono ?_
 rintro e w3 ⟨a,cap,ks,rfl,hS⟩
 have hperm:=hS.perm
 rw [Qp] at hperm
 obtain ⟨ps,hps⟩ : ∃ ps,srt (fun q : Nat × Nat=>(q.1 : Int)) ss = ps:=⟨_,rfl⟩
 have hpp : ps.Perm ss:=by rw [<- hps]; exact Jb _ _
 have hksp : ks = ps.map (·.1):=by
  refine Nb (f:=fun k : Nat=>(k : Int)) (hperm.trans (hpp.map _).symm) hS.up ?_
  refine List.pairwise_map.2 ?_
  rw [<- hps]
  refine Aab (fun q : Nat × Nat=>(q.1 : Int)) ss ?_
  have : ss.map (fun q=>(q.1 : Int)) = (ss.map (·.1)).map (fun k : Nat=>(k : Int)):=by rw [List.map_map]; rfl
  rw [this]
  exact List.pairwise_map.2 (hnd.imp fun h e=>h (by exact_mod_cast e))
 have hpl2 : ps.length = ss.length:=hpp.length_eq
 have hkl : Shut (ks.length = ss.length):=by rw [hksp]; simpa [Shut] using hpl2
 have hb3 : Below w.heap.size w w3:=(hb1.trans (hb2.mono hb1.size)).trans (hS.below.mono (by have:=hb1.size; have:=hb2.size; omega))
 have hown3:=own_below hown2 hS.below
 rw [hkl.out]
 rcases hS.cells with he | ⟨g,rfl,hg2,hg3,hcs⟩
 ·have hss : ss = []:=by have:=hkl.out; rw [he] at this; exact List.eq_nil_of_length_eq_zero this.symm
  have hp0 : ps = []:=List.eq_nil_of_length_eq_zero (by rw [hpl2,hss]; rfl)
  have hl0 : ss.length = 0:=by rw [hss]; rfl
  rw [hl0] at hown3 ⊢
  go_wp2_with fail
  go_loopw [3,19] (fun lv i W=>lv = .slice (some ⟨w.heap.size,0,none⟩) 0 0 /\ i = .int .i64 0 /\ W = w3) (fun _ _ _=>0)
  case atStart=>exact ⟨rfl,rfl,rfl⟩
  case round =>
   obtain ⟨rfl,rfl,rfl⟩:=hrel
   go_wp2_with fail
   simp [bodyPost,results,Tryz.results105,go_sem]
   refine ⟨⟨some ⟨w.heap.size,0,none⟩,0,0⟩,⟨rfl,rfl,rfl⟩,?_,hb3⟩
   rw [hps,hp0,hl0]
   exact hown3
 ·go_wp2_with fail
  go_loopw [3,19] (fun lv i W=>∃ (k : Nat) (vL : SV),lv = .slice vL.a vL.n vL.c /\ i = .int .i64 k /\ k <= ss.length /\ Below w.heap.size w W /\ (∀ i kk,ks[i]? = some kk -> CellsAt W g (i * 4) (wc kk)) /\ W.ownsRow w.heap.size 72 8 (.slice vL.a vL.n vL.c) k (Dq (ps.take k)) /\ vL.blk ≠ some g /\ g < W.heap.size) (fun _ i _=>ss.length - (Go.RowKit.intOf i).toNat)
  case atStart=>exact ⟨0,⟨some ⟨w.heap.size,0,none⟩,0,ss.length⟩,rfl,rfl,Nat.zero_le _,hb3,hcs,hown3,(by intro e; have:=Option.some.inj e; show False; have h2 : w.heap.size = g:=this; omega),hg3⟩
  case round =>
   obtain ⟨k,vL,rfl,rfl,hkk,hb,hcW,hoW,hne,hgW⟩:=hrel
   by_cases hlt : k < ss.length
   ·have hlt' : (k : Int) < (ss.length : Int):=by omega
    have hlp : k < ps.length:=by omega
    have hkk2 : ks[k]? = some ps[k].1:=by rw [hksp]; simp [hlp]
    have hc4:=hcW k _ hkk2
    have hmem : ps[k] ∈ ss:=hpp.mem_iff.1 (List.getElem_mem hlp)
    obtain ⟨hkM,hvM⟩:=hk _ hmem
    obtain ⟨jf,hfind⟩:=Uq ss 0 ps[k] hnd hmem
    have htake : ps.take (k + 1) = ps.take k ++ [ps[k]]:=(List.take_append_getElem hlp).symm
    generalize hpk : ps[k] = p at *
    have c0:=hc4 0 _ rfl
    have c1:=hc4 1 _ rfl
    have c2:=hc4 2 _ rfl
    have c3:=hc4 3 _ rfl
    rw [Nat.add_zero] at c0
    have hlk : ∀ W,MapB wd W ms (slotL ss) -> (Instr.lookup 133 (.map (some ms)) (wd p.1) false).run TryQ.prog W = .ok (wd p.2) W:=fun W hW=>by
     have:=Ip Gq u91 (z:=wd 0) hW.mapL hkM (fun q hq=>by obtain ⟨r,hr,rfl⟩:=List.mem_map.1 hq; exact (hk r hr).1) (fun w=>by rw [Anh])
     rw [hfind] at this
     exact this
    have hbx : Below wr.heap.size wr (wr.alloc (.cells (wc p.1).toArray 41)):=ba
    have hx:=Et wr (wc p.1) 41
    have hxl : wr.heap.size < (wr.alloc (.cells (wc p.1).toArray 41)).heap.size:=by simp
    have hbW:=hb.trans (hbx.mono hb.size)
    have hcW2 : ∀ i kk,ks[i]? = some kk -> CellsAt (wr.alloc (.cells (wc p.1).toArray 41)) g (i * 4) (wc kk):=fun i kk h=>(hcW i kk h).below hbx
    have hoW2:=own_below hoW hbx
    have hlo:=Ed hoW
    go_wp2_with fail
    change Code.wp _ _ _ _ (wr.alloc (.cells (wc p.1).toArray 41))
    generalize wr.alloc (.cells (wc p.1).toArray 41) = W1 at hx hxl hbW hcW2 hoW2 ⊢
    generalize hxb : wr.heap.size = xb at hx hxl hlo hgW ⊢
    refine rq (fun W=>Below w.heap.size w W /\ CellsAt W xb 0 (wc p.1)) ⟨hbW.drew,hx.below (Below.refl _ _).drew⟩ fun hH=>?_
    refine tx 0 23 (.slice vL.a vL.n vL.c) hH ?_
    refine td (i:=1) (d:=some 24) (v:=wd p.1) rfl rfl (fun W hW=>?_) hH ?_
    ·have k0:=hW.2 0 _ rfl; have k1:=hW.2 1 _ rfl; have k2:=hW.2 2 _ rfl; have k3:=hW.2 3 _ rfl
     simp only [Nat.zero_add] at k0 k1 k2 k3
     clear hW hH
     unfold wd
     go_simp
    refine tx 2 25 (pq pa 0) hH ?_
    refine tx 3 26 (pq pa 0) hH ?_
    refine tx 4 27 (pq pa 7) hH ?_
    refine td (i:=5) (d:=some 28) (v:=.map (some ms)) rfl rfl (fun W hW=>?_) hH ?_
    ·have k7:=(hW.1.cell (p:=⟨pa,7,none⟩) hpl).trans hpa
     clear hW hH
     go_simp
    refine td (i:=6) (d:=some 29) (v:=wd p.1) rfl rfl (fun W hW=>?_) hH ?_
    ·have k0:=hW.2 0 _ rfl; have k1:=hW.2 1 _ rfl; have k2:=hW.2 2 _ rfl; have k3:=hW.2 3 _ rfl
     simp only [Nat.zero_add] at k0 k1 k2 k3
     clear hW hH
     unfold wd
     go_simp
    refine td (i:=7) (d:=some 30) (v:=wd p.2) rfl rfl (fun W hW=>?_) hH ?_
    ·have k7:=hlk W (hM.below hW.1)
     clear hW hH hlk
     go_simp
    refine td (i:=8) (d:=some 31) (v:=.agg (Ba p).toArray) rfl rfl (fun W hW=>?_) hH ?_
    ·clear hW hH hlk
     unfold wd Ba
     go_simp
    have hoD : W1.drew.ownsRow w.heap.size 72 8 (.slice vL.a vL.n vL.c) k (Dq (ps.take k)):=own_below hoW2 (Below.refl _ _).drew
    have hcD : ∀ i kk,ks[i]? = some kk -> CellsAt W1.drew g (i * 4) (wc kk):=fun i kk h=>(hcW2 i kk h).below (Below.refl _ _).drew
    have hxD : xb < W1.drew.heap.size:=hxl
    obtain ⟨zB,hzB⟩ : ∃ zB,W1.drew.heap.size = zB:=⟨_,rfl⟩
    generalize W1.drew = W2 at hH hoD hcD hxD hzB ⊢
    refine r1 9 fun K hK=>?_
    unfold Ba
    go_simp
    have hb4 : Below W2.heap.size W2 (W2.alloc (.cells (Ba p).toArray 72)):=ba
    have hn4:=Et W2 (Ba p) 72
    refine hK.out _ (W2.alloc (.cells (Ba p).toArray 72)) ⟨hH.1.trans (hb4.mono hH.1.size),hH.2.below hb4⟩ fun hH=>?_
    clear hK K
    replace hoD:=own_below hoD hb4
    replace hcD : ∀ i kk,ks[i]? = some kk -> CellsAt (W2.alloc (.cells (Ba p).toArray 72)) g (i * 4) (wc kk):=fun i kk h=>(hcD i kk h).below hb4
    have hsz4 : (W2.alloc (.cells (Ba p).toArray 72)).heap.size = W2.heap.size + 1:=by simp
    generalize W2.alloc (.cells (Ba p).toArray 72) = W3 at hH hoD hcD hn4 hsz4 ⊢
    refine r1 10 fun K hK=>?_
    rw [if_pos (by rfl)]
    refine wp_append_lies W3 _ _ 50 rfl w.heap.size 72 i57 z57 8 64 ((Ab 50).trans Tryz.underlying50) hi57 hz57 hs57 hb57 hzs57 (by omega) _ _ _ rfl hoD ⟨zB,0,none⟩ 1 1 (Ba p) rfl rfl (fun j v hj=>by rw [Addr.add_mid,<- hzB]; exact hn4 j v hj) (fun v hv=>Uo [p] v (by rw [Dq,Dq,List.append_nil]; exact hv)) (by omega) (by simp [maxLen]; omega) (by omega) hH.1.size _ rfl ?_
    intro g2 n2 W4 hown4 hgrow hat hlt4
    have hb5 : Below w.heap.size w W4:=hH.1.trans (Oz hgrow (Va hoD) hH.1.size)
    have hxne : vL.blk ≠ some xb:=fun e=>by have:=hlo _ e; omega
    have hx4 : CellsAt W4 xb 0 (wc p.1):=fun j v hj=>(hgrow.cell_far ⟨xb,0 + j,none⟩ (by show xb < _; omega) (fun e=>hxne e.symm)).trans (hH.2 j v hj)
    have hc4 : ∀ i kk,ks[i]? = some kk -> CellsAt W4 g (i * 4) (wc kk):=fun i kk h j v hj=>(hgrow.cell_far ⟨g,i * 4 + j,none⟩ (by show g < _; omega) (fun e=>hne e.symm)).trans (hcD i kk h j v hj)
    refine hK.out _ _ ⟨hb5,hx4⟩ fun hH=>?_
    clear hK K
    refine tx 11 3 (.slice (some ⟨g2,0,none⟩) (k + 1) n2) hH ?_
    refine dn ?_
    go_wp2_with fail
    refine ⟨⟨k + 1,⟨some ⟨g2,0,none⟩,k + 1,n2⟩,rfl,by go_num,by omega,hb5,hc4,?_,?_,?_⟩,?_⟩
    ·rw [htake,Mg,Dq,Dq,List.append_nil]; exact hown4
    ·intro e
     have e' : g2 = g:=Option.some.inj e
     rcases hat with hat | hat
     ·exact hne (by rw [<- e']; exact hat)
     ·omega
    ·have:=hgrow.size; omega
    ·simp [Go.RowKit.intOf]; omega
   ·have hk' : k = ss.length:=by omega
    subst hk'
    go_wp2_with fail
    simp [bodyPost,results,Tryz.results105,go_sem]
    refine ⟨vL,⟨rfl,rfl,rfl⟩,?_,hb⟩
    rw [<- hpl2,List.take_length] at hoW
    rw [hps,<- hpl2]
    exact hoW
def Qg (d : Bt) (mk : SV) (ms : Nat) : List Value:=[.int .u64 (lim d.bal 0),.int .u64 (lim d.bal 1),.int .u64 (lim d.bal 2),.int .u64 (lim d.bal 3),.int .i64 d.nonce,.string d.code,.slice mk.a mk.n mk.c,.map (some ms)]
structure LedAt (w : World) (pa : Nat) (d : Bt) : Prop where
 ex : ∃ mk ms,CellsAt w pa 0 (Qg d mk ms) /\ MapB wd w ms (slotL d.slots)
 key : ∀ p ∈ d.slots,p.1 < M /\ p.2 < M
 nd : (d.slots.map (·.1)).Nodup
 num : d.slots.length < 1000000
theorem LedAt.lt {w : World} {pa : Nat} {d : Bt} (h : LedAt w pa d) : pa < w.heap.size:=by
 obtain ⟨mk,ms,hc,_⟩:=h.ex
 have:=hc 0 _ rfl
 simp only [World.cell?] at this
 cases hh : w.heap[pa]? with
 | none=>rw [Nat.zero_add] at this; simp only [hh] at this; cases this
 | some o=>exact (Array.getElem?_eq_some_iff.1 hh).1
theorem LedAt.below {w w' : World} {pa : Nat} {d : Bt} (h : LedAt w pa d) (hb : Below w.heap.size w w') : LedAt w' pa d:=by
 obtain ⟨mk,ms,hc,hM⟩:=h.ex
 exact ⟨⟨mk,ms,hc.below hb,hM.below hb⟩,h.key,h.nd,h.num⟩
theorem Ank (d : Bt) (pa : Nat) (w : World) (h : LedAt w pa d) :
  Calls TryQ.prog 65 #[pq pa 0,.int .i64 d.id] w fun e w'=>∃ v : SV,e = .returned (.agg (Am (sK d) v).toArray) /\ w'.ownsRow w.heap.size 72 8 (.slice v.a v.n v.c) (sK d).slots.length (Dq (sK d).slots) /\ Below w.heap.size w w':=by
 have hpl:=h.lt
 obtain ⟨mk,ms,hc,hM⟩:=h.ex
 have hkey:=h.key
 have hnd:=h.nd
 have hnum:=h.num
 have hsl : (sK d).slots.length = d.slots.length:=(Jb _ _).length_eq
 rw [hsl]
 go_enter TryQ.func65,Tryz.ntmps65
 go_upto_region 1 with fail
 obtain ⟨o,ho⟩ : ∃ o,o = w.heap.size:=⟨_,rfl⟩
 have hb1 : Below w.heap.size w (w.alloc (.cells #[.int .i64 0,.int .u64 0,.int .u64 0,.int .u64 0,.int .u64 0,.int .i64 0,.string ⟨#[]⟩,.slice none 0 0] 52)):=ba
 have ht1 : (w.alloc (.cells #[.int .i64 0,.int .u64 0,.int .u64 0,.int .u64 0,.int .u64 0,.int .i64 0,.string ⟨#[]⟩,.slice none 0 0] 52)).there w.heap.size 0 8:=Ad5 w #[.int .i64 0,.int .u64 0,.int .u64 0,.int .u64 0,.int .u64 0,.int .i64 0,.string ⟨#[]⟩,.slice none 0 0] 52
 have hl1 : w.heap.size < (w.alloc (.cells #[.int .i64 0,.int .u64 0,.int .u64 0,.int .u64 0,.int .u64 0,.int .i64 0,.string ⟨#[]⟩,.slice none 0 0] 52)).heap.size:=by simp
 generalize w.alloc (.cells #[.int .i64 0,.int .u64 0,.int .u64 0,.int .u64 0,.int .u64 0,.int .i64 0,.string ⟨#[]⟩,.slice none 0 0] 52) = W1 at hb1 ht1 hl1 ⊢
 refine rq (fun W=>Below w.heap.size w W) hb1.drew fun hH=>?_
 refine tx 0 5 (.int .i64 d.id) hH ?_
 refine tx 1 6 (pq pa 0) hH ?_
 refine tx 2 7 (pq pa 0) hH ?_
 refine tx 3 8 (pq pa 0) hH ?_
 refine td (i:=4) (d:=some 9) (v:=wd d.bal) rfl rfl (fun W hW=>?_) hH ?_
 ·have h8 : CellsAt W pa 0 (Qg d mk ms):=hc.below hW
  have k0:=h8 0 _ rfl; have k1:=h8 1 _ rfl; have k2:=h8 2 _ rfl; have k3:=h8 3 _ rfl
  simp only [Nat.zero_add] at k0 k1 k2 k3
  clear h8 hW hH
  unfold wd
  go_simp
 refine tx 5 10 (pq pa 0) hH ?_
 refine tx 6 11 (pq pa 0) hH ?_
 refine tx 7 12 (pq pa 4) hH ?_
 refine td (i:=8) (d:=some 13) (v:=.int .i64 d.nonce) rfl rfl (fun W hW=>?_) hH ?_
 ·have k4:=(hc.below hW) 4 _ rfl
  simp only [Nat.zero_add] at k4
  clear hW hH
  go_simp
 refine tx 9 14 (pq pa 0) hH ?_
 refine tx 10 15 (pq pa 0) hH ?_
 refine tx 11 16 (pq pa 5) hH ?_
 refine td (i:=12) (d:=some 17) (v:=.string d.code) rfl rfl (fun W hW=>?_) hH ?_
 ·have k4:=(hc.below hW) 5 _ rfl
  simp only [Nat.zero_add] at k4
  clear hW hH
  go_simp
 refine tx 13 18 (pq pa 0) hH ?_
 have ht2 : W1.drew.there w.heap.size 0 8:=ht1
 have hl2 : w.heap.size < W1.drew.heap.size:=hl1
 generalize W1.drew = W2 at hH ht2 hl2 ⊢
 have hts:=Ad6 d.slots pa ms W2 (by have:=(hc.below hH) 7 _ rfl; rw [Nat.zero_add] at this; exact this) (Nat.lt_of_lt_of_le hpl hH.size) (hM.below hH) hkey hnd hnum
 refine r1 14 fun K hK=>?_
 go_simp
 refine hts.mono ?_
 rintro e W3 ⟨v,rfl,hown,hb3⟩
 go_wp2_with fail
 refine hK.out _ _ (hH.trans (hb3.mono hH.size)) fun hH=>?_
 clear hK K
 refine td (i:=15) (d:=some 20) (v:=.agg (Am d v).toArray) rfl rfl (fun W hW=>?_) hH ?_
 ·clear hW hH
  unfold wd Am
  go_simp
 refine r1 16 fun K hK=>?_
 rw [if_pos (by rfl)]
 have ht3 : W3.there w.heap.size 0 8:=fun j hj=>by
  rw [hb3.cell (p:=⟨w.heap.size,0 + j,none⟩) hl2,hb3.frozen (p:=⟨w.heap.size,0 + j,none⟩) hl2]; exact ht2 j hj
 refine wp_store_mid 52 _ _ rfl w.heap.size 0 (Am d v).toArray rfl rfl ht3 (by kernel_rfl) (by simp [Am,Value.oneCell']) ?_
 have hb4 : Below w.heap.size w (W3.setCells w.heap.size 0 (Am d v)):=below_setCells _ _ _ _ _ _ hH (Nat.le_refl _)
 refine hK.out _ _ hb4 fun hH=>?_
 clear hK K
 refine dn ?_
 have hcs : CellsAt (W3.setCells w.heap.size 0 (Am d v)) w.heap.size 0 (Am d v):=World.rangeAt_setCells_same _ _ _ _ (fun j hj=>ht3 j hj)
 have hne : v.blk ≠ some w.heap.size:=fun e=>by have:=Va hown _ e; omega
 have hown4 : (W3.setCells w.heap.size 0 (Am d v)).ownsRow w.heap.size 72 8 (.slice v.a v.n v.c) d.slots.length (Dq (srt (fun q=>(q.1 : Int)) d.slots)):=Xz (Ng hown (Ahl (Am d v) 0 W3 (Al8 W3 (some w.heap.size))) (fun g e1 e2=>hne (e1.trans e2.symm))) (by omega)
 change Exit.then _ _ _ _ (W3.setCells w.heap.size 0 (Am d v))
 generalize W3.setCells w.heap.size 0 (Am d v) = W4 at hcs hown4 hb4 ⊢
 have x0:=hcs 0 _ rfl
 have x1:=hcs 1 _ rfl
 have x2:=hcs 2 _ rfl
 have x3:=hcs 3 _ rfl
 have x4:=hcs 4 _ rfl
 have x5:=hcs 5 _ rfl
 have x6:=hcs 6 _ rfl
 have x7:=hcs 7 _ rfl
 simp only [Nat.zero_add] at x0 x1 x2 x3 x4 x5 x6 x7
 go_wp2_with fail
 simp [bodyPost,results,Tryz.results65,go_sem,x0,x1,x2,x3,x4,x5,x6,x7]
 exact ⟨v,rfl,hown4,hb4⟩
end Go.Mark
