import Derived.Test.YtbephahokhnccaaGreatDoorXL9toL11
set_option linter.unusedSectionVars false
set_option maxRecDepth 100000
set_option maxHeartbeats 8000000
namespace Go.Mark
open Go.RowKit Go.Proofs
variable [BaseB]
section
attribute [local go_sem] wd
theorem Art {W : World} {f : Nat} {R : World -> Prop} (h : Calls TryQ.prog 332 #[pq f 0] W fun e w'=>e = .returned (.tuple #[]) /\ R w') :
    Calls TryQ.prog 263 #[pq f 0,.int .u8 61] W fun e w'=>e = .returned .nilIface /\ R w':=by
 have hg : Calls TryQ.prog 304 #[pq f 0,.int .u8 61] W fun e w'=>e = .returned (.tuple #[]) /\ R w':=by
  go_enter TryQ.func304,Tryz.ntmps304
  go_wp2_with fail
  refine h.mono ?_
  rintro e w1 ⟨rfl,hR⟩
  go_wp2
  simp [bodyPost,results,Tryz.results304,go_sem]
  exact hR
 go_enter TryQ.func263,Tryz.ntmps263
 go_wp2_with fail
 refine hg.mono ?_
 rintro e w1 ⟨rfl,hR⟩
 go_wp2
 go_ret
 exact ⟨rfl,hR⟩
theorem Ars {W : World} {f : Nat} {R : World -> Prop} (h : Calls TryQ.prog 333 #[pq f 0] W fun e w'=>e = .returned (.tuple #[]) /\ R w') :
    Calls TryQ.prog 263 #[pq f 0,.int .u8 62] W fun e w'=>e = .returned .nilIface /\ R w':=by
 have hg : Calls TryQ.prog 304 #[pq f 0,.int .u8 62] W fun e w'=>e = .returned (.tuple #[]) /\ R w':=by
  go_enter TryQ.func304,Tryz.ntmps304
  go_wp2_with fail
  refine h.mono ?_
  rintro e w1 ⟨rfl,hR⟩
  go_wp2
  simp [bodyPost,results,Tryz.results304,go_sem]
  exact hR
 go_enter TryQ.func263,Tryz.ntmps263
 go_wp2_with fail
 refine hg.mono ?_
 rintro e w1 ⟨rfl,hR⟩
 go_wp2
 go_ret
 exact ⟨rfl,hR⟩
theorem Ab2 (w : World) : Calls TryQ.prog 147 #[.int .u8 255] w fun e w'=>e = .returned (.int .i64 1) /\ w' = w:=by
 go_enter TryQ.func147,Tryz.ntmps147
 go_wp2
 go_ret
 exact ⟨rfl,rfl⟩
def Rn (f : Nat) (Φ : Value -> World -> Prop) : Nat -> World -> Prop
  | 0,_=>False
  | n + 1,W=>Calls TryQ.prog 224 #[pq f 0] W fun e w'=>(∃ t v,e = .returned (.iface t v) /\ Φ (.iface t v) w') \/ (e = .returned .nilIface /\ Rn f Φ n w')
theorem Tm {P : Program} {c : Code} {Q : Exit -> Act -> World -> Prop} {I : Nat -> Act -> World -> Prop} (h0 : ∀ a w,¬ I 0 a w) (hs : ∀ n,(∀ a w,I n a w -> Code.rounds P c Q n a w) -> ∀ a w,I (n + 1) a w -> Code.rounds P c Q (n + 1) a w) : ∀ n a w,I n a w -> Code.rounds P c Q n a w
  | 0,a,w,h=>absurd h (h0 a w)
  | n + 1,a,w,h=>hs n (Tm h0 hs n) a w h
theorem Anu {f : Nat} {Φ : Value -> World -> Prop} (n : Nat) (W : World) (h : Rn f Φ n W) :
    Calls TryQ.prog 180 #[pq f 0] W fun e w'=>∃ t v,e = .returned (.iface t v) /\ Φ (.iface t v) w':=by
  go_enter TryQ.func180,Tryz.ntmps180
  go_wp2_with fail
  refine wp_loop_rounds n ?_
  refine Tm (I:=fun n a w=>∃ v3 v4 v5 v6 v7 v8 : Value,a = ⟨#[pq f 0,ud,.nilIface,v3,v4,v5,v6,v7,v8],[]⟩ /\ Rn f Φ n w) ?_ ?_ n _ _ ⟨_,_,_,_,_,_,rfl,h⟩
  · rintro a w ⟨_,_,_,_,_,_,_,h⟩
    exact h
  · clear h W
    rintro n ih a w ⟨v3,v4,v5,v6,v7,v8,rfl,h⟩
    have ihs : Shut (∀ a w,(∃ v3 v4 v5 v6 v7 v8 : Value,a = ⟨#[pq f 0,ud,.nilIface,v3,v4,v5,v6,v7,v8],[]⟩ /\ Rn f Φ n w) -> Code.rounds _ _ _ n a w):=ih
    clear ih
    rw [rounds_succ]
    go_wp2_with fail
    refine Calls.mono h ?_
    rintro e w1 (⟨t,v,rfl,hΦ⟩ | ⟨rfl,hR⟩)
    · go_wp2
      go_ret
      exact ⟨t,v,rfl,hΦ⟩
    · go_wp2_with fail
      exact ihs.out _ _ ⟨_,_,_,_,_,_,rfl,hR⟩
theorem stx {W : World} {f : Nat} {F : Frm} {sv : SV} {S : List Nat} {et : TypeId} {ev : Value} {Φ : Value -> World -> Prop} {Q : Frm -> SV -> World -> Prop} {n : Nat} (hf : W.heap[f]? = ob (frC F sv) 225) (hs : Stk W sv S)
    (i t l g x len : Int) (p : Nat) (b : UInt8) (hpl : F.place = (p : Int)) (hp : p < 1000) (hb : F.text.data[p]? = some b) (hi : (b.toNat : Int) = i)
    (hsh : ∀ w,Calls TryQ.prog 290 #[.int .u8 i] w fun e w'=>e = .returned (.tuple #[.agg #[.int .i64 t,.int .i64 l,.int .i64 g],.bool true]) /\ Below w.heap.size w w')
    (hto : ∀ w,Below W.heap.size W w -> Calls TryQ.prog 291 #[pq f 0,.int .u8 i] w fun e w'=>e = .returned (.tuple #[.int .i64 0,.nilIface]) /\ Below w.heap.size w w')
    (hex : ∀ w,Below W.heap.size W w -> Calls TryQ.prog 292 #[pq f 0,.int .u8 i] w fun e w'=>e = .returned (.int .i64 x) /\ Below w.heap.size w w')
    (hlen : ∀ w,Calls TryQ.prog 147 #[.int .u8 i] w fun e w'=>e = .returned (.int .i64 len) /\ w' = w)
    (ht : t <= S.length) (hl0 : 0 <= l) (hl : (S.length : Int) - t + l <= 1024) (hg0 : 0 <= g) (hg1 : g < 100000) (hx0 : 0 <= x) (hx1 : x < 1000000000) (hle0 : 0 <= len) (hle1 : len < 100) (hgs : 0 <= F.gas) (hgs' : F.gas < 100000000)
    (hE : W.cell? ⟨1,0,none⟩ = some (.iface et ev)) (h1 : 1 < W.heap.size)
    (hdo : g + x <= F.gas -> ∀ w,w.heap[f]? = ob (frC { F with gas:=F.gas - (g + x),next:=F.place + len } sv) 225 -> Pres [f] [] W w -> Calls TryQ.prog 263 #[pq f 0,.int .u8 i] w fun e w'=>e = .returned .nilIface /\ ∃ F' sv',w'.heap[f]? = ob (frC F' sv') 225 /\ Q F' sv' w')
    (hbad : F.gas < g + x -> ∀ v w',Xh W F et ev v w' -> Φ v w')
    (hok : g + x <= F.gas -> ∀ w1 w' F' sv',Q F' sv' w1 -> w1.heap[f]? = ob (frC F' sv') 225 -> w'.heap[f]? = ob (frC { F' with place:=F'.next } sv') 225 -> Pres [f] [] w1 w' -> Rn f Φ n w') :
    Rn f Φ (n + 1) W:=by
 have hn:=hs.n
 have hin : Calls TryQ.prog 261 #[pq f 0] W fun e w'=>e = .returned (.int .u8 i) /\ Below W.heap.size W w':=by
  have:=Yh hf p hpl b hb
  rw [hi] at this
  exact this
 refine Calls.mono (Agw hf i len (g + x) (C:=g + x <= F.gas) (Bw:=fun t v=>F.gas < g + x /\ t = et /\ v = ev) (Q:=fun F' sv w=>g + x <= F.gas /\ Q F' sv w) (R:=fun _ _=>False) hin (fun w hw=>?_) hlen (by omega) (by omega) hle0 hle1 (fun hC w hw hpw=>(hdo hC w hw hpw).mono (fun e w' ⟨h1,F',sv',h2,h3⟩=>.inl ⟨h1,F',sv',h2,hC,h3⟩))) ?_
 · refine (payx ((hw.block _ (Aa hf)).trans hf) i t l g x hsh (fun w' hw'=>hto w' (hw.trans (hw'.mono hw.size))) (fun w' hw'=>hex w' (hw.trans (hw'.mono hw.size))) (by rw [hn]; exact ht) hl0 (by rw [hn]; exact hl) hg0 hg1 hx0 hx1 hgs hgs' ((hw.cell (p:=⟨1,0,none⟩) h1).trans hE) (Nat.lt_of_lt_of_le h1 hw.size)).mono ?_
   rintro e w' (⟨hc,he,h2,h3⟩ | ⟨hc,he,h2⟩)
   · exact .inl ⟨hc,he,h2,h3⟩
   · exact .inr ⟨et,ev,⟨hc,rfl,rfl⟩,he,h2⟩
 · rintro e w' (⟨rfl,F',sv',w1,⟨hc,hQ⟩,h2,h3,h4⟩ | ⟨t',v',rfl,hR | ⟨et',ev',⟨hc,rfl,rfl⟩,hB⟩⟩)
   · exact .inr ⟨rfl,hok hc w1 w' F' sv' hQ h3 h2 h4⟩
   · exact hR.elim
   · exact .inl ⟨t',v',rfl,hbad hc _ _ hB⟩
theorem Acx {W : World} {f : Nat} {F : Frm} {sv : SV} {et : TypeId} {ev : Value} {Φ : Value -> World -> Prop} {n : Nat} (hf : W.heap[f]? = ob (frC F sv) 225) (hn : sv.n < 1000) (hp : 0 <= F.place /\ F.place < 1000) (hin : Calls TryQ.prog 261 #[pq f 0] W fun e w'=>e = .returned (.int .u8 0) /\ Below W.heap.size W w') (hgs : 0 <= F.gas) (hgs' : F.gas < 100000000) (hE : W.cell? ⟨1,0,none⟩ = some (.iface et ev)) (h1 : 1 < W.heap.size)
    (hΦ : ∀ w',Pres [f] [] W w' -> Φ (.iface 174 (.agg #[.int .i64 F.gas,.string ⟨#[]⟩])) w') : Rn f Φ (n + 1) W:=by
 refine Calls.mono (Agw hf 0 1 0 (C:=True) (Bw:=fun _ _=>False) (Q:=fun _ _ _=>False) (R:=fun v w'=>v = .iface 174 (.agg #[.int .i64 F.gas,.string ⟨#[]⟩]) /\ Pres [f] [] W w') hin (fun w hw=>?_) Yc hp.1 (by omega) (by decide) (by decide) (fun _ w hw hpw=>?_)) ?_
 · refine (payx ((hw.block _ (Aa hf)).trans hf) 0 0 0 0 0 Ac2 (fun w' _=>(Tf f w').mono (fun e w'' ⟨h2,h3⟩=>⟨h2,by rw [h3]; exact Below.refl _ _⟩)) (fun w' _=>(Adn f w').mono (fun e w'' ⟨h2,h3⟩=>⟨h2,by rw [h3]; exact Below.refl _ _⟩)) (by omega) (by decide) (by omega) (by decide) (by decide) (by decide) (by decide) hgs hgs' ((hw.cell (p:=⟨1,0,none⟩) h1).trans hE) (Nat.lt_of_lt_of_le h1 hw.size)).mono ?_
   rintro e w' (⟨hc,he,h2,h3⟩ | ⟨hc,he,h2⟩)
   · exact .inl ⟨trivial,he,h2,h3⟩
   · exact absurd hc (by omega)
 · refine (Adr hw).mono ?_
   rintro e w' ⟨rfl,hb⟩
   exact .inr ⟨_,_,rfl,by show Value.iface 174 (.agg #[.int .i64 (F.gas - 0),.string ⟨#[]⟩]) = _; rw [Int.sub_zero],hpw.trans (.of_below hb _ _)⟩
 · rintro e w' (⟨rfl,F',sv',w1,hQ,_⟩ | ⟨t',v',rfl,⟨hv,hR⟩ | ⟨et',ev',hB,_⟩⟩)
   · exact hQ.elim
   · exact .inl ⟨t',v',rfl,by rw [hv]; exact hΦ w' hR⟩
   · exact hB.elim
theorem Akp {W : World} {f : Nat} {F : Frm} {sv : SV} {et : TypeId} {ev : Value} {Φ : Value -> World -> Prop} {n : Nat} (hf : W.heap[f]? = ob (frC F sv) 225) (hp : 0 <= F.place /\ F.place < 1000) (hin : Calls TryQ.prog 261 #[pq f 0] W fun e w'=>e = .returned (.int .u8 255) /\ Below W.heap.size W w') (hE : W.cell? ⟨5,0,none⟩ = some (.iface et ev)) (h5 : 5 < W.heap.size)
    (hbad : ∀ v w',Xh W F et ev v w' -> Φ v w') : Rn f Φ (n + 1) W:=by
 refine Calls.mono (Agw hf 255 1 0 (C:=False) (Bw:=fun t v=>t = et /\ v = ev) (Q:=fun _ _ _=>False) (R:=fun _ _=>False) hin (fun w hw=>?_) Ab2 hp.1 (by omega) (by decide) (by decide) (fun h=>h.elim)) ?_
 · refine (Aih ((hw.cell (p:=⟨5,0,none⟩) h5).trans hE) (Nat.lt_of_lt_of_le h5 hw.size)).mono ?_
   rintro e w' ⟨he,h2⟩
   exact .inr ⟨et,ev,⟨rfl,rfl⟩,he,h2⟩
 · rintro e w' (⟨rfl,F',sv',w1,hQ,_⟩ | ⟨t',v',rfl,hR | ⟨et',ev',⟨rfl,rfl⟩,hB⟩⟩)
   · exact hQ.elim
   · exact hR.elim
   · exact .inl ⟨t',v',rfl,hbad _ _ hB⟩
end
section
def fr (F : Frm) (g p : Int) : Frm:={ F with gas:=g,place:=p,next:=p }
theorem lo0 {P : Program} {fn : FuncId} {args : Array Value} {v : Value} (h : ∀ w,Calls P fn args w fun e w'=>e = .returned v /\ w' = w) (w : World) : Calls P fn args w fun e w'=>e = .returned v /\ Below w.heap.size w w':=(h w).mono fun _ _ ⟨h1,h2⟩=>⟨h1,by rw [h2]; exact Below.refl _ _⟩
theorem Stk.kpf {W W' : World} {f : Nat} {sv : SV} {S : List Nat} {T : List TypeId} {c : Array Value} (h : Stk W sv S) (hf : W.heap[f]? = ob c 225) (hp : Pres [f] T W W') (hT : 41 ∉ T) : Stk W' sv S:=h.kp hp hT fun k hk c' hc=>by
  obtain rfl : k = f:=by simpa using hk
  rw [hf] at hc
  cases hc
section
variable {W : World} {l m f n : Nat} {dm : Dm} {cr : Int} {L : AL} {J : List Value} {F : Frm} {sv lg : SV} {back depth g : Int} {S : List Nat} {et : TypeId} {ev : Value} {Φ : Value -> World -> Prop} {p : Nat}
theorem Db (hf : W.heap[f]? = ob (frC (fr F g p) sv) 225) (hs : Stk W sv S) (hp : p < 900) (hg : 0 <= g) (hg' : g < 100000000) (hE : W.cell? ⟨1,0,none⟩ = some (.iface et ev)) (h1 : 1 < W.heap.size) (hS : S.length < 100) (x y z : UInt8) (hb : F.text.data[p]? = some 98) (hx : F.text.data[p + 1]? = some x) (hy : F.text.data[p + 1 + 1]? = some y) (hz : F.text.data[p + 1 + 2]? = some z) {N : Nat} (hN : x.toNat * 65536 + y.toNat * 256 + z.toNat = N)
    (hbad : g < 3 -> ∀ v w',Xh W (fr F g p) et ev v w' -> Φ v w')
    (hok : 3 <= g -> ∀ w' sv',w'.heap[f]? = ob (frC (fr F (g - 3) ((p + 4 : Nat) : Int)) sv') 225 -> Stk w' sv' (S ++ [N]) -> Pres [f] [41] W w' -> Rn f Φ n w') : Rn f Φ (n + 1) W:=by
 refine stx (Q:=fun F' sv' w'=>F' = { fr F g p with gas:=g - 3,next:=(p : Int) + 4 } /\ Stk w' sv' (S ++ [N]) /\ Pres [f] [41] W w') hf hs 98 0 1 3 0 4 p 98 rfl (by omega) hb rfl Ah1 (fun w _=>lo0 (Aap f) w) (fun w _=>lo0 (Ajp f) w) Afo (by omega) (by decide) (by omega) (by decide) (by decide) (by decide) (by decide) (by decide) (by decide) hg hg' hE h1 (fun hc w hw hpw=>?_) (fun hc=>hbad (by simp [fr] at hc; omega)) (fun hc w1 w' F' sv' hQ hf1 hf2 hp2=>?_)
 · have hsw : Stk w sv S:=hs.kpf hf hpw (by simp)
   have hl:=Zn (F:={ fr F g p with gas:=g - (3 + 0),next:=(p : Int) + 4 }) hw hsw (by omega) p rfl rfl (by omega) x y z hx hy hz
   rw [hN] at hl
   refine (Arr (R:=fun w'=>∃ sv',w'.heap[f]? = ob (frC { fr F g p with gas:=g - (3 + 0),next:=(p : Int) + 4 } sv') 225 /\ Stk w' sv' (S ++ [N]) /\ Pres [f] [41] w w') (hl.mono (fun e w' ⟨sv',he,h2,h3,h4⟩=>⟨he,sv',h2,h3,h4⟩))).mono ?_
   rintro e w' ⟨rfl,sv',h2,h3,h4⟩
   refine ⟨rfl,_,sv',h2,by simp,h3,(hpw.mono (fun _ _ h=>h) (fun t h=>by cases h)).trans h4⟩
 · obtain ⟨rfl,hs1,hp1⟩:=hQ
   refine hok (by simp [fr] at hc; omega) w' sv' hf2 (hs1.kpf hf1 hp2 (by simp)) (hp1.trans (hp2.mono (fun _ _ h=>h) (fun t h=>by cases h)))
theorem Anq {x y : Nat} (hf : W.heap[f]? = ob (frC (fr F g p) sv) 225) (hs : Stk W sv (S ++ [y,x])) (hp : p < 900) (hg : 0 <= g) (hg' : g < 100000000) (hE : W.cell? ⟨1,0,none⟩ = some (.iface et ev)) (h1 : 1 < W.heap.size) (hS : S.length < 100) (hxM : x < M) (hyM : y < M) (hb : F.text.data[p]? = some 1)
    (hbad : g < 3 -> ∀ v w',Xh W (fr F g p) et ev v w' -> Φ v w')
    (hok : 3 <= g -> ∀ w' sv',w'.heap[f]? = ob (frC (fr F (g - 3) ((p + 1 : Nat) : Int)) sv') 225 -> Stk w' sv' (S ++ [(x + y) % M]) -> Pres [f] [41] W w' -> Rn f Φ n w') : Rn f Φ (n + 1) W:=by
 refine stx (Q:=fun F' sv' w'=>F' = { fr F g p with gas:=g - 3,next:=(p : Int) + 1 } /\ Stk w' sv' (S ++ [(x + y) % M]) /\ Pres [f] [41] W w') hf hs 1 2 1 3 0 1 p 1 rfl (by omega) hb rfl Ac1 (fun w _=>lo0 (Ad2 f) w) (fun w _=>lo0 (Ama f) w) Ajg (by simp; omega) (by decide) (by simp; omega) (by decide) (by decide) (by decide) (by decide) (by decide) (by decide) hg hg' hE h1 (fun hc w hw hpw=>?_) (fun hc=>hbad (by simp [fr] at hc; omega)) (fun hc w1 w' F' sv' hQ hf1 hf2 hp2=>?_)
 · have hsw : Stk w sv (S ++ [y] ++ [x]):=by rw [List.append_assoc]; exact hs.kpf hf hpw (by simp)
   have hl:=Afv (F:={ fr F g p with gas:=g - (3 + 0),next:=(p : Int) + 1 }) hw hsw (by omega) hxM hyM
   refine (do_1 (R:=fun w'=>∃ sv',w'.heap[f]? = ob (frC { fr F g p with gas:=g - (3 + 0),next:=(p : Int) + 1 } sv') 225 /\ Stk w' sv' (S ++ [(x + y) % M]) /\ Pres [f] [41] w w') (hl.mono (fun e w' ⟨sv',he,h2,h3,h4⟩=>⟨he,sv',h2,h3,h4⟩))).mono ?_
   rintro e w' ⟨rfl,sv',h2,h3,h4⟩
   refine ⟨rfl,_,sv',h2,by simp,h3,(hpw.mono (fun _ _ h=>h) (fun t h=>by cases h)).trans h4⟩
 · obtain ⟨rfl,hs1,hp1⟩:=hQ
   exact hok (by simp [fr] at hc; omega) w' sv' hf2 (hs1.kpf hf1 hp2 (by simp)) (hp1.trans (hp2.mono (fun _ _ h=>h) (fun t h=>by cases h)))
theorem Ag9 {k v : Nat} (h : LG W l m dm cr L J) (hm : W.heap[F.m]? = ob (Aj l lg back depth) 165) (hf : W.heap[f]? = ob (frC (fr F g p) sv) 225) (hs : Stk W sv (S ++ [v,k])) (hp : p < 900) (hg : 0 <= g) (hg' : g < 100000000) (hE : W.cell? ⟨1,0,none⟩ = some (.iface et ev)) (h1 : 1 < W.heap.size) {q : Int × Nat × Ac} (hq : q ∈ L) (hself : q.1 = F.self) (hk : k < M) (hv : v < M) (hv0 : v ≠ 0) (hk0 : Cy q.2.2.sl k = 0) (hJ : J.length < 1000000) (hS : S.length < 100) (hb : F.text.data[p]? = some 45)
    (hbad : g < 20000 -> ∀ v w',Xh W (fr F g p) et ev v w' -> Φ v w')
    (hok : 20000 <= g -> ∀ w' sv',w'.heap[f]? = ob (frC (fr F (g - 20000) ((p + 1 : Nat) : Int)) sv') 225 -> Stk w' sv' S -> LG w' l m dm cr (Ce L q.2.1 { q.2.2 with sl:=D9 k v q.2.2.sl }) (J ++ [D7 q.2.1 k 0]) -> w'.heap[F.m]? = ob (Aj l lg back depth) 165 -> Pres [f,l,q.2.2.ms] [262] W w' -> Rn f Φ n w') : Rn f Φ (n + 1) W:=by
 have hne : F.m ≠ f:=Bc hm hf (by decide)
 refine stx (Q:=fun F' sv' w'=>F' = { fr F g p with gas:=g - 20000,next:=(p : Int) + 1 } /\ Stk w' sv' S /\ LG w' l m dm cr (Ce L q.2.1 { q.2.2 with sl:=D9 k v q.2.2.sl }) (J ++ [D7 q.2.1 k 0]) /\ w'.heap[F.m]? = ob (Aj l lg back depth) 165 /\ Pres [f,l,q.2.2.ms] [262] W w') hf hs 45 2 0 5000 15000 1 p 45 rfl (by omega) hb rfl Ah5 (fun w _=>lo0 (Aat f) w) (fun w hw=>Ajt (h.below hw) (F:=fr F g p) ((hw.block _ (Aa hf)).trans hf) ((hw.block _ (Aa hm)).trans hm) hq hself (hs.below hw) hk hv hv0 hk0) Afs (by simp; omega) (by decide) (by simp; omega) (by decide) (by decide) (by decide) (by decide) (by decide) (by decide) hg hg' hE h1 (fun hc w hw hpw=>?_) (fun hc=>hbad (by simp [fr] at hc; omega)) (fun hc w1 w' F' sv' hQ hf1 hf2 hp2=>?_)
 · have hd:=Arv (F:={ fr F g p with gas:=g - (5000 + 15000),next:=(p : Int) + 1 }) (h.kp1 hpw hf (by simp) (by decide)) hw (hpw.obj hm (by show (165 : Nat) ∉ []; simp) (by show F.m ∉ [f]; simpa using hne)) hq hself (hs.kpf hf hpw (by simp)) hk hv hv0 hk0 hJ
   refine hd.mono ?_
   rintro e w' ⟨rfl,sv',h2,h3,h4,h5,h6⟩
   exact ⟨rfl,_,sv',h2,by simp,h3,h4,h5,(hpw.mono (fun k _ hk=>by simp at hk; simp [hk]) (fun t h=>by cases h)).trans h6⟩
 · obtain ⟨rfl,hs1,hL1,hm1,hp1⟩:=hQ
   exact hok (by simp [fr] at hc; omega) w' sv' hf2 (hs1.kpf hf1 hp2 (by simp)) (hL1.kp1 hp2 hf1 (by simp) (by decide)) (hp2.obj hm1 (by show (165 : Nat) ∉ []; simp) (by simpa using hne)) (hp1.trans (hp2.mono (fun k _ hk=>by simp at hk; simp [hk]) (fun t h=>by cases h)))
theorem Anp {a t : Nat} (h : LG W l m dm cr L J) (hm : W.heap[F.m]? = ob (Aj l lg back depth) 165) (hf : W.heap[f]? = ob (frC (fr F g p) sv) 225) (hs : Stk W sv (S ++ [t,0,a])) (hp : p < 900) (hg : 0 <= g) (hg' : g < 100000000) (hE : W.cell? ⟨1,0,none⟩ = some (.iface et ev)) (h1 : 1 < W.heap.size) {N : Nat} {xs : List Value} (hown : W.ownsRow BaseB.b0 95 6 (.slice lg.a lg.n lg.c) N xs) (hN : N < 1000000) (hS : S.length < 100) (hb : F.text.data[p]? = some 50)
    (hbad : g < 375 -> ∀ v w',Xh W (fr F g p) et ev v w' -> Φ v w')
    (hok : 375 <= g -> ∀ w' sv' lg',w'.heap[f]? = ob (frC (fr F (g - 375) ((p + 1 : Nat) : Int)) sv') 225 -> Stk w' sv' S -> LG w' l m dm cr L J -> lg'.n = N + 1 -> w'.heap[F.m]? = ob (Aj l lg' back depth) 165 -> w'.ownsRow BaseB.b0 95 6 (.slice lg'.a lg'.n lg'.c) (N + 1) (xs ++ Ej F.self t) -> Pres [f,F.m] [95] W w' -> Rn f Φ n w') : Rn f Φ (n + 1) W:=by
 have hne : F.m ≠ f:=Bc hm hf (by decide)
 refine stx (Q:=fun F' sv' w'=>F' = { fr F g p with gas:=g - 375,next:=(p : Int) + 1 } /\ ∃ lg',Stk w' sv' S /\ LG w' l m dm cr L J /\ lg'.n = N + 1 /\ w'.heap[F.m]? = ob (Aj l lg' back depth) 165 /\ w'.ownsRow BaseB.b0 95 6 (.slice lg'.a lg'.n lg'.c) (N + 1) (xs ++ Ej F.self t) /\ Pres [f,F.m] [95] W w') hf hs 50 3 0 375 0 1 p 50 rfl (by omega) hb rfl Ah4 (fun w hw=>Aas (T:=S ++ [t]) ((hw.block _ (Aa hf)).trans hf) (by rw [List.append_assoc]; exact hs.below hw)) (fun w hw=>Ajs (T:=S ++ [t]) ((hw.block _ (Aa hf)).trans hf) (by rw [List.append_assoc]; exact hs.below hw)) Afr (by simp; omega) (by decide) (by simp; omega) (by decide) (by decide) (by decide) (by decide) (by decide) (by decide) hg hg' hE h1 (fun hc w hw hpw=>?_) (fun hc=>hbad (by simp [fr] at hc; omega)) (fun hc w1 w' F' sv' hQ hf1 hf2 hp2=>?_)
 · have hd:=Aru (F:={ fr F g p with gas:=g - (375 + 0),next:=(p : Int) + 1 }) (h.kp1 hpw hf (by simp) (by decide)) hw (hpw.obj hm (by show (165 : Nat) ∉ []; simp) (by show F.m ∉ [f]; simpa using hne)) (Cw hown fun k hk=>by
     obtain ⟨cur,hc⟩:=Cj hown k hk
     exact (hpw.obj hc (by show (95 : Nat) ∉ []; simp) (by simpa using Bc hc hf (by decide))).trans hc.symm) hN (hs.kpf hf hpw (by simp))
   refine hd.mono ?_
   rintro e w' ⟨rfl,sv',lg',h2,h3,h4,h5,h6,h7,h8⟩
   exact ⟨rfl,_,sv',h2,by simp,lg',h3,h4,h5,h6,h7,(hpw.mono (fun k _ hk=>by simp at hk; simp [hk]) (fun t h=>by cases h)).trans h8⟩
 · obtain ⟨rfl,lg',hs1,hL1,hn1,hm1,ho1,hp1⟩:=hQ
   exact hok (by simp [fr] at hc; omega) w' sv' lg' hf2 (hs1.kpf hf1 hp2 (by simp)) (hL1.kp1 hp2 hf1 (by simp) (by decide)) hn1 (hp2.obj hm1 (by show (165 : Nat) ∉ []; simp) (by simpa using hne)) (Cw ho1 fun k hk=>by
     obtain ⟨cur,hc⟩:=Cj ho1 k hk
     exact (hp2.obj hc (by show (95 : Nat) ∉ []; simp) (by simpa using Bc hc hf1 (by decide))).trans hc.symm) (hp1.trans (hp2.mono (fun k _ hk=>by simp at hk; simp [hk]) (fun t h=>by cases h)))
end
end
section
structure Gb (W : World) (a d li ni : Addr) : Prop where
  lo : 5 < BaseB.b0 /\ a.block < BaseB.b0 /\ d.block < BaseB.b0 /\ li.block < BaseB.b0 /\ ni.block < BaseB.b0
  low : BaseB.b0 <= W.heap.size
  ng : W.cell? ⟨1,0,none⟩ = some (.iface 407 (.pointer (some a)))
  dp : W.cell? ⟨0,0,none⟩ = some (.iface 407 (.pointer (some d)))
  lt : W.cell? ⟨3,0,none⟩ = some (.iface 407 (.pointer (some li)))
  et : W.cell? ⟨4,0,none⟩ = some (.iface 355 (.agg #[pq 11 36]))
  ins : W.cell? ⟨5,0,none⟩ = some (.iface 407 (.pointer (some ni)))
  oa : ∃ c t,W.heap[a.block]? = ob c t
  od : ∃ c t,W.heap[d.block]? = ob c t
  ol : ∃ c t,W.heap[li.block]? = ob c t
  oi : ∃ c t,W.heap[ni.block]? = ob c t
  ne : a ≠ d /\ a ≠ li /\ ni ≠ d /\ ni ≠ li /\ li ≠ d
theorem cellOf {W W' : World} {k : Nat} (h : W'.heap[k]? = W.heap[k]?) (i : Nat) : W'.cell? ⟨k,i,none⟩ = W.cell? ⟨k,i,none⟩:=by simp only [World.cell?,h]
theorem Gb.keep {W W' : World} {a d li ni : Addr} (h : Gb W a d li ni) (hs : W.heap.size <= W'.heap.size) (hk : ∀ k,k < BaseB.b0 -> W'.heap[k]? = W.heap[k]?) : Gb W' a d li ni:=by
  have hl:=h.lo
  exact ⟨h.lo,Nat.le_trans h.low hs,(cellOf (hk 1 (by omega)) 0).trans h.ng,(cellOf (hk 0 (by omega)) 0).trans h.dp,(cellOf (hk 3 (by omega)) 0).trans h.lt,(cellOf (hk 4 (by omega)) 0).trans h.et,(cellOf (hk 5 (by omega)) 0).trans h.ins,let ⟨c,t,e⟩:=h.oa; ⟨c,t,(hk _ hl.2.1).trans e⟩,let ⟨c,t,e⟩:=h.od; ⟨c,t,(hk _ hl.2.2.1).trans e⟩,let ⟨c,t,e⟩:=h.ol; ⟨c,t,(hk _ hl.2.2.2.1).trans e⟩,let ⟨c,t,e⟩:=h.oi; ⟨c,t,(hk _ hl.2.2.2.2).trans e⟩,h.ne⟩
theorem Gb.pres {W W' : World} {a d li ni : Addr} {B : List Nat} {T : List TypeId} (h : Gb W a d li ni) (hp : Pres B T W W') (hB : ∀ k ∈ B,BaseB.b0 <= k) : Gb W' a d li ni :=
  h.keep hp.size fun k hk=>hp.floor hk (Nat.lt_of_lt_of_le hk h.low) (fun e=>by have:=hB k e; omega)
theorem Gb.below {W W' : World} {a d li ni : Addr} (h : Gb W a d li ni) (hb : Below W.heap.size W W') : Gb W' a d li ni:=h.keep hb.size fun k hk=>hb.block k (Nat.lt_of_lt_of_le hk h.low)
theorem Ta {W W' : World} {lg : SV} {N : Nat} {xs : List Value} {B : List Nat} {T : List TypeId} (h : W.ownsRow BaseB.b0 95 6 (.slice lg.a lg.n lg.c) N xs) (hp : Pres B T W W') (hT : 95 ∉ T) (hB : ∀ k ∈ B,∀ c,W.heap[k]? ≠ ob c 95) : W'.ownsRow BaseB.b0 95 6 (.slice lg.a lg.n lg.c) N xs:=Cw h fun g hg=>by
  obtain ⟨cur,hc⟩:=Cj h g hg
  exact (hp.obj hc hT (fun e=>hB g e cur hc)).trans hc.symm
structure Md (B : List Nat) (W0 W : World) (mc l m : Nat) (dm : Dm) (cr : Int) (L : AL) (J : List Value) (lg : SV) (back depth : Int) (N : Nat) (xs : List Value) (a d li ni : Addr) : Prop where
  ld : LG W l m dm cr L J
  mc : W.heap[mc]? = ob (Aj l lg back depth) 165
  ow : W.ownsRow BaseB.b0 95 6 (.slice lg.a lg.n lg.c) N xs
  gb : Gb W a d li ni
  pr : Pres B [262,41,95] W0 W
section
variable {B : List Nat} {W0 W W' : World} {mc l m f n : Nat} {dm : Dm} {cr : Int} {L : AL} {J : List Value} {lg sv : SV} {back depth g : Int} {N : Nat} {xs : List Value} {a d li ni : Addr} {F : Frm}
theorem Md.below (h : Md B W0 W mc l m dm cr L J lg back depth N xs a d li ni) (hb : Below W.heap.size W W') : Md B W0 W' mc l m dm cr L J lg back depth N xs a d li ni :=
  ⟨h.ld.below hb,(hb.block _ (Aa h.mc)).trans h.mc,own_below h.ow hb,h.gb.below hb,h.pr.trans (.of_below hb _ _)⟩
theorem Md.fs {c : Array Value} (h : Md B W0 W mc l m dm cr L J lg back depth N xs a d li ni) (hf : W.heap[f]? = ob c 225) (hp : Pres [f] [41] W W') (hfB : f ∈ B) (hb : BaseB.b0 <= f) : Md B W0 W' mc l m dm cr L J lg back depth N xs a d li ni :=
  ⟨h.ld.kp1 hp hf (by decide) (by decide),hp.obj h.mc (by show (165 : Nat) ∉ [41]; decide) (by have:=Bc h.mc hf (by decide); simpa using this),Ta h.ow hp (by decide) (fun k hk c hc=>by
    obtain rfl : k = f:=by simpa using hk
    rw [hf] at hc
    cases hc),h.gb.pres hp (fun k hk=>by
    obtain rfl : k = f:=by simpa using hk
    exact hb),h.pr.trans (hp.mono (fun k _ hk=>by simp at hk; rw [hk]; exact hfB) (fun t ht=>by simp at ht; simp [ht]))⟩
def L1 (L : AL) (q : Int × Nat × Ac) : AL:=Ce L q.2.1 { q.2.2 with sl:=D9 1 9 q.2.2.sl }
def J1 (J : List Value) (q : Int × Nat × Ac) : List Value:=J ++ [D7 q.2.1 1 0]
def Ana (B : List Nat) (W0 : World) (mc l m : Nat) (dm : Dm) (cr : Int) (L : AL) (J : List Value) (back depth : Int) (a d li ni : Addr) (q : Int × Nat × Ac) (F : Frm) (g : Int) (last : UInt8) (v : Value) (w : World) : Prop :=
  (20390 <= g /\ last = 0 /\ v = .iface 174 (.agg #[.int .i64 (g - 20390),.string ⟨#[]⟩]) /\ ∃ lg',lg'.n = 1 /\ Md B W0 w mc l m dm cr (L1 L q) (J1 J q) lg' back depth 1 (Ej F.self 7) a d li ni) \/
  ((g < 20390 \/ last = 255) /\ ∃ gb pl fb e,(e = a \/ e = ni) /\ v = .iface 217 (.agg #[.int .i64 gb,.iface 299 (pq fb 0)]) /\ w.heap[fb]? = ob #[.int .i64 F.self,.int .i64 pl,.iface 407 (.pointer (some e)),.int .i64 F.bl,.int .i64 F.bg,.int .i64 F.bb] 303 /\ W0.heap.size <= fb /\ ∃ lg' N xs,Md B W0 w mc l m dm cr L J lg' back depth N xs a d li ni \/ Md B W0 w mc l m dm cr (L1 L q) (J1 J q) lg' back depth N xs a d li ni)
theorem G5 {q : Int × Nat × Ac} {G : Int} {last : UInt8} {LL : AL} {JJ : List Value} {e : Addr} {v : Value} {p : Int} (h : Md B W0 W mc l m dm cr LL JJ lg back depth N xs a d li ni) (hc : (LL = L /\ JJ = J) \/ (LL = L1 L q /\ JJ = J1 J q)) (he : e = a \/ e = ni) (hG : G < 20390 \/ last = 255) (hb : Xh W (fr F g p) 407 (.pointer (some e)) v W') : Ana B W0 mc l m dm cr L J back depth a d li ni q F G last v W':=by
  obtain ⟨fb,h1,h2,h3,h4⟩:=hb
  refine .inr ⟨hG,g,p,fb,e,he,h1,h2,Nat.le_trans h.pr.size h3,lg,N,xs,?_⟩
  rcases hc with ⟨rfl,rfl⟩ | ⟨rfl,rfl⟩
  · exact .inl (h.below h4)
  · exact .inr (h.below h4)
def cdC (last : UInt8) : Array UInt8:=#[98,0,0,9,98,0,0,1,45,98,0,0,7,98,0,0,0,98,0,0,0,50,last]
theorem Agc {q : Int × Nat × Ac} {last : UInt8} (hM : Md B W0 W mc l m dm cr L J lg back depth 0 [] a d li ni) (hmc : F.m = mc) (hB : f ∈ B /\ l ∈ B /\ q.2.2.ms ∈ B /\ mc ∈ B) (hlo : BaseB.b0 <= f /\ BaseB.b0 <= mc) (ht : F.text.data = cdC last) (hl : last = 0 \/ last = 255) (hf : W.heap[f]? = ob (frC (fr F g ((0 : Nat) : Int)) sv) 225) (hs : Stk W sv []) (hq : q ∈ L) (hself : q.1 = F.self) (hk0 : Cy q.2.2.sl 1 = 0) (hJ : J.length < 1000) (hg : 0 <= g) (hg' : g < 100000000) :
    Rn f (Ana B W0 mc l m dm cr L J back depth a d li ni q F g last) 8 W:=by
 subst hmc
 have bt : ∀ (p : Nat) (x : UInt8),(cdC last)[p]? = some x -> F.text.data[p]? = some x:=fun p x h=>by rw [ht]; exact h
 have o1 : ∀ {u : World},Gb u a d li ni -> 1 < u.heap.size:=fun h=>by have:=h.lo; have:=h.low; omega
 have o5 : ∀ {u : World},Gb u a d li ni -> 5 < u.heap.size:=fun h=>by have:=h.lo; have:=h.low; omega
 refine Db (p:=0) hf hs (by decide) hg hg' hM.gb.ng (o1 hM.gb) (by simp) 0 0 9 (bt _ _ rfl) (bt _ _ rfl) (bt _ _ rfl) (bt _ _ rfl) (N:=9) rfl (fun hc v w' hb=>G5 hM (.inl ⟨rfl,rfl⟩) (.inl rfl) (.inl (by omega)) hb) (fun c1 w1 v1 f1 s1 p1=>?_)
 have M1:=hM.fs hf p1 hB.1 hlo.1
 refine Db (p:=4) f1 s1 (by decide) (by omega) (by omega) M1.gb.ng (o1 M1.gb) (by simp) 0 0 1 (bt _ _ rfl) (bt _ _ rfl) (bt _ _ rfl) (bt _ _ rfl) (N:=1) rfl (fun hc v w' hb=>G5 M1 (.inl ⟨rfl,rfl⟩) (.inl rfl) (.inl (by omega)) hb) (fun c2 w2 v2 f2 s2 p2=>?_)
 have M2:=M1.fs f1 p2 hB.1 hlo.1
 refine Ag9 (p:=8) (S:=[]) (k:=1) (v:=9) M2.ld M2.mc f2 s2 (by decide) (by omega) (by omega) M2.gb.ng (o1 M2.gb) hq hself (by decide) (by decide) (by decide) hk0 (by omega) (by simp) (bt _ _ rfl) (fun hc v w' hb=>G5 M2 (.inl ⟨rfl,rfl⟩) (.inl rfl) (.inl (by omega)) hb) (fun c3 w3 v3 f3 s3 L3 m3 p3=>?_)
 have hlq:=M2.ld.lo q hq
 have M3 : Md B W0 w3 F.m l m dm cr (L1 L q) (J1 J q) lg back depth 0 [] a d li ni:=⟨L3,m3,Ta M2.ow p3 (by decide) (fun k hk c hc=>by
    obtain ⟨jv,hlo2,_⟩:=M2.ld.lj.ex
    obtain ⟨es,ec,hmo,_⟩:=M2.ld.slot q hq
    simp only [List.mem_cons,List.not_mem_nil,or_false] at hk
    rcases hk with rfl | rfl | rfl
    · rw [f2] at hc; cases hc
    · rw [hlo2] at hc; cases hc
    · rw [hmo] at hc; cases hc),M2.gb.pres p3 (fun k hk=>by
    have hll:=M2.ld.lj.lo
    simp only [List.mem_cons,List.not_mem_nil,or_false] at hk
    rcases hk with rfl | rfl | rfl
    · exact hlo.1
    · exact hll
    · exact hlq.2),M2.pr.trans (p3.mono (fun k _ hk=>by
    simp only [List.mem_cons,List.not_mem_nil,or_false] at hk
    rcases hk with rfl | rfl | rfl
    · exact hB.1
    · exact hB.2.1
    · exact hB.2.2.1) (fun t ht=>by simp at ht; simp [ht]))⟩
 refine Db (p:=9) f3 s3 (by decide) (by omega) (by omega) M3.gb.ng (o1 M3.gb) (by simp) 0 0 7 (bt _ _ rfl) (bt _ _ rfl) (bt _ _ rfl) (bt _ _ rfl) (N:=7) rfl (fun hc v w' hb=>G5 M3 (.inr ⟨rfl,rfl⟩) (.inl rfl) (.inl (by omega)) hb) (fun c4 w4 v4 f4 s4 p4=>?_)
 have M4:=M3.fs f3 p4 hB.1 hlo.1
 refine Db (p:=13) f4 s4 (by decide) (by omega) (by omega) M4.gb.ng (o1 M4.gb) (by simp) 0 0 0 (bt _ _ rfl) (bt _ _ rfl) (bt _ _ rfl) (bt _ _ rfl) (N:=0) rfl (fun hc v w' hb=>G5 M4 (.inr ⟨rfl,rfl⟩) (.inl rfl) (.inl (by omega)) hb) (fun c5 w5 v5 f5 s5 p5=>?_)
 have M5:=M4.fs f4 p5 hB.1 hlo.1
 refine Db (p:=17) f5 s5 (by decide) (by omega) (by omega) M5.gb.ng (o1 M5.gb) (by simp) 0 0 0 (bt _ _ rfl) (bt _ _ rfl) (bt _ _ rfl) (bt _ _ rfl) (N:=0) rfl (fun hc v w' hb=>G5 M5 (.inr ⟨rfl,rfl⟩) (.inl rfl) (.inl (by omega)) hb) (fun c6 w6 v6 f6 s6 p6=>?_)
 have M6:=M5.fs f5 p6 hB.1 hlo.1
 refine Anp (p:=21) (S:=[]) (a:=0) (t:=7) M6.ld M6.mc f6 s6 (by decide) (by omega) (by omega) M6.gb.ng (o1 M6.gb) M6.ow (by decide) (by simp) (bt _ _ rfl) (fun hc v w' hb=>G5 M6 (.inr ⟨rfl,rfl⟩) (.inl rfl) (.inl (by omega)) hb) (fun c7 w7 v7 lg7 f7 s7 L7 n7 m7 o7 p7=>?_)
 have M7 : Md B W0 w7 F.m l m dm cr (L1 L q) (J1 J q) lg7 back depth 1 (Ej F.self 7) a d li ni:=⟨L7,m7,o7,M6.gb.pres p7 (fun k hk=>by
    simp only [List.mem_cons,List.not_mem_nil,or_false] at hk
    rcases hk with rfl | rfl
    · exact hlo.1
    · exact hlo.2),M6.pr.trans (p7.mono (fun k _ hk=>by
    simp only [List.mem_cons,List.not_mem_nil,or_false] at hk
    rcases hk with rfl | rfl
    · exact hB.1
    · exact hB.2.2.2) (fun t ht=>by simp at ht; simp [ht]))⟩
 have hin : ∀ x : UInt8,last = x -> Calls TryQ.prog 261 #[pq f 0] w7 fun e w'=>e = .returned (.int .u8 (x.toNat : Int)) /\ Below w7.heap.size w7 w':=fun x hx=>Yh f7 22 rfl x (bt _ _ (by rw [hx]; rfl))
 rcases hl with hl | hl
 · refine Acx f7 (by rw [s7.n]; decide) ⟨by show (0 : Int) <= 22; decide,by show (22 : Int) < 1000; decide⟩ (hin 0 hl) (by show 0 <= _; simp only [fr]; omega) (by simp only [fr]; omega) M7.gb.ng (o1 M7.gb) (fun w' hp=>.inl ⟨by omega,hl,?_,lg7,n7,M7.fs f7 (hp.mono (fun _ _ h=>h) (fun t h=>by cases h)) hB.1 hlo.1⟩)
   show Value.iface 174 (.agg #[.int .i64 (g - 3 - 3 - 20000 - 3 - 3 - 3 - 375),.string ⟨#[]⟩]) = _
   rw [show g - 3 - 3 - 20000 - 3 - 3 - 3 - 375 = g - 20390 by omega]
 · exact Akp f7 ⟨by show (0 : Int) <= 22; decide,by show (22 : Int) < 1000; decide⟩ (hin 255 hl) M7.gb.ins (o5 M7.gb) (fun v w' hb=>G5 M7 (.inr ⟨rfl,rfl⟩) (.inr rfl) (.inr hl) hb)
end
end
section
theorem Vr {W : World} {f mc l : Nat} {lg : SV} {back depth : Int} {Φ : Value -> World -> Prop} {n : Nat} (hm : W.heap[mc]? = ob (Aj l lg back depth) 165) (hd : 0 <= depth) (hd' : depth < 1000)
  (h : ∀ w : World,w.heap[mc]? = ob (Aj l lg back (depth + 1)) 165 -> Pres [mc] [] W w -> Rn f Φ n w)
  (hΦ : ∀ v w',Φ v w' -> ∃ lg' back',w'.heap[mc]? = ob (Aj l lg' back' (depth + 1)) 165) :
  Calls TryQ.prog 139 #[pq mc 0,pq f 0] W fun e w'=>∃ t v w2 lg' back',e = .returned (.iface t v) /\ Φ (.iface t v) w2 /\ w2.heap[mc]? = ob (Aj l lg' back' (depth + 1)) 165 /\ w'.heap[mc]? = ob (Aj l lg' back' depth) 165 /\ Pres [mc] [] w2 w':=by
 have i1 : IntKind.i64.wrap (depth + 1) = depth + 1:=IntWalk.i64_in _ ⟨by omega,by omega⟩
 have i2 : IntKind.i64.wrap depth = depth:=IntWalk.i64_in _ ⟨by omega,by omega⟩
 have c3:=bq hm 3 rfl
 have f3:=Ai hm 3
 have hm1 : (W.setCell ⟨mc,3,none⟩ (.int .i64 (depth + 1))).heap[mc]? = ob (Aj l lg back (depth + 1)) 165:=Av (i:=3) hm
 have hr:=Anu n _ (h _ hm1 (Pres.setCell W mc 3 _))
 clear h
 go_enter TryQ.func139,Tryz.ntmps139
 go_wp2_with fail
 refine hr.mono ?_
 rintro e w2 ⟨t,v,rfl,hv⟩
 obtain ⟨lg',back',hm2⟩:=hΦ _ _ hv
 clear c3 f3 hr
 have c3:=bq hm2 3 rfl
 have f3:=Ai hm2 3
 have i3 : depth + 1 - 1 = depth:=by omega
 go_wp2
 go_ret
 exact ⟨t,v,w2,lg',back',rfl,hv,hm2,Av (i:=3) hm2,Pres.setCell w2 mc 3 _⟩
theorem Xt (L : AL) (b : Nat) (x y : Ac) : Ce (Ce L b x) b y = Ce L b y:=by
 unfold Ce
 rw [List.map_map]
 refine List.map_congr_left fun r _=>?_
 simp only [Function.comp]
 by_cases h : r.2.1 = b
 ·simp [h]
 ·simp [h]
theorem Jq {L : AL} (h : (L.map (·.2.1)).Nodup) {q : Int × Nat × Ac} (hq : q ∈ L) : Ce L q.2.1 q.2.2 = L:=by
 unfold Ce
 conv=>rhs; rw [<- List.map_id L]
 refine List.map_congr_left fun r hr=>?_
 by_cases e : r.2.1 = q.2.1
 ·rw [if_pos e,Hz h hr hq e]; rfl
 ·rw [if_neg e]; rfl
section
variable (l m : Nat) (dm : Dm) (cr : Int)
def JU (B : List Nat) (j : Value) (L L' : AL) : Prop:=∃ t v fn,j = .iface t v /\ (∀ w,(Go.method 543 t v "purser/ledger.undo").run TryQ.prog w = .ok (fn,v) w) /\ (∀ args w,(callFunc fn args).run TryQ.prog w = .ok (.enter fn args) w) /\
 ∀ w J,LG w l m dm cr L J -> Calls TryQ.prog fn #[v,pq l 0] w fun e w'=>e = .returned (.tuple #[]) /\ LG w' l m dm cr L' J /\ Pres B [] w w'
def Und (B : List Nat) (L0 : AL) : List Value -> AL -> Prop
 | [],L=>L = L0
 | j :: rs,L=>∃ L',JU l m dm cr B j L L' /\ Und B L0 rs L'
end
theorem Ahr {W : World} {l m : Nat} {dm : Dm} {cr : Int} {L L0 : AL} {J0 rs : List Value} {B : List Nat} (h : LG W l m dm cr L (J0 ++ rs.reverse)) (hJ : (J0 ++ rs.reverse).length < 100000000) (hu : Und l m dm cr B L0 rs L) :
  Calls TryQ.prog 223 #[pq l 0,.int .i64 (J0.length : Int)] W fun e w'=>e = .returned (.tuple #[]) /\ LG w' l m dm cr L0 J0 /\ Pres (l :: B) [] W w':=by
 refine Calls.mono (Aki (dm:=dm.b) (m:=m) (cr:=cr) J0.length (by simp) hJ (fun n w=>∃ rs' ds L',LG w l m dm cr L' (J0 ++ rs.reverse) /\ Und l m dm cr B L0 rs' L' /\ n = J0.length + rs'.length /\ rs = ds ++ rs' /\ Pres B [] W w) (fun n w ⟨_,_,_,hL,_⟩=>hL.lj) (fun n w hn hlt ⟨rs',ds,L',hL,hU,hn1,hrs,hp⟩=>?_) ⟨rs,[],L,h,hu,by simp,rfl,Pres.refl _ _ _⟩) ?_
 ·cases rs' with
  | nil=>simp at hn1; omega
  | cons j rs' =>
   obtain ⟨L2,⟨t,v,fn,hj,hm,hc,hd⟩,hU2⟩:=hU
   refine ⟨t,v,fn,?_,hm,hc,(hd w _ hL).mono (fun e w' ⟨h1,h2,h3⟩=>⟨h1,rs',ds ++ [j],L2,h2,hU2,?_,by rw [hrs]; simp,hp.trans h3⟩)⟩
   ·rw [hrs,<- hj,List.reverse_append,List.reverse_cons,List.getElem?_append_right (by simp at hn1; omega)]
    simp at hn1
    rw [show n - J0.length = rs'.reverse.length by simp; omega]
    simp
   ·simp at hn1; omega
 ·rintro e w' ⟨rfl,w1,⟨rs',ds,L',hL,hU,hn1,hrs,hp⟩,hlj,hp1⟩
  have e0 : rs' = []:=List.eq_nil_of_length_eq_zero (by omega)
  subst e0
  obtain rfl : L' = L0:=hU
  have ht : (J0 ++ rs.reverse).take J0.length = J0:=by simp
  rw [ht] at hlj
  obtain ⟨jv,ho,_⟩:=hL.lj.ex
  refine ⟨rfl,hL.pres hlj hp1 (by simp) (fun k hk o hk2=>?_),(hp.mono (fun k _ hk=>List.mem_cons_of_mem _ hk) (fun t h=>h)).trans (hp1.mono (fun k _ hk=>by simp at hk; simp [hk]) (fun t h=>h))⟩
  obtain rfl : k = l:=by simpa using hk
  rw [ho] at hk2
  cases hk2
  exact ⟨_,_,_,rfl,by decide⟩
end
end Go.Mark
