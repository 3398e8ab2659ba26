import Derived.Test.YtbephahokhnccaaGreatDoorH11
import Derived.Conc.LeavingOf
import Derived.Stop.LaidTwo
import Derived.LaidSub
set_option linter.unusedSectionVars false
set_option maxRecDepth 100000
set_option maxHeartbeats 4000000
namespace Go.Mark
open Go.Conc Go.Walk Go.Phase Go.RowKit Go.Conc.Lib Go.ConcR.Gen Go.ConcN.Gen Go.Lift Go.Proofs
open Go.ConcN (WgLive Has RW DWs AtR0 PayAt)
open Go.ConcR (KK WgAt stA smA rd wr mk Payload)
variable [BaseB]
def t4A (vn vg : Value) : Array Value := #[vn, vg, undef, undef, .bool false, undef, undef, undef, undef, undef, undef, undef, undef, undef, undef, undef, undef, undef, undef, undef, undef, undef, undef, undef, undef, undef, undef, undef, undef, undef, undef, undef, undef, undef, undef, undef, undef, undef, undef, undef, undef, undef, undef, undef, undef, undef, undef, undef, undef, undef, undef, undef, undef, undef, undef, undef, undef, undef, undef, undef, undef, undef, undef, undef]
def t4B (vn vg : Value) : Array Value := #[vn, vg, undef, undef, .bool false, undef, undef, undef, undef, undef, undef, undef, .bool true, undef, undef, undef, undef, undef, undef, undef, undef, undef, undef, undef, undef, undef, undef, undef, undef, undef, undef, undef, undef, undef, undef, undef, undef, undef, undef, undef, undef, undef, undef, undef, undef, undef, undef, undef, undef, undef, undef, undef, undef, undef, undef, undef, undef, undef, undef, undef, undef, undef, undef, undef]
def t4C (vn vg : Value) : Array Value := #[vn, vg, undef, undef, .bool false, .bool true, undef, undef, undef, undef, undef, undef, .bool true, undef, undef, undef, undef, undef, undef, undef, undef, undef, undef, undef, undef, undef, undef, undef, undef, undef, undef, undef, undef, undef, undef, undef, undef, undef, undef, undef, undef, undef, undef, undef, undef, undef, undef, undef, undef, undef, undef, undef, undef, undef, undef, undef, undef, undef, undef, undef, undef, undef, undef, undef]
def t4D (vn vg x13 x14 x15 : Value) (k : Nat) : Array Value := #[vn, vg, undef, undef, .bool false, .bool true, .int .i64 (k : Int), undef, undef, undef, undef, undef, .bool true, x13, x14, x15, undef, undef, undef, undef, undef, undef, undef, undef, undef, undef, undef, undef, undef, undef, undef, undef, undef, undef, undef, undef, undef, undef, undef, undef, undef, undef, undef, undef, undef, undef, undef, undef, undef, undef, undef, undef, undef, undef, undef, undef, undef, undef, undef, undef, undef, undef, undef, undef]
def t4E (vn vg x13 x14 x15 x16 x17 x18 x19 x20 : Value) (k : Nat) (st : ByteArray) : Array Value := #[vn, vg, undef, undef, .bool false, .bool true, .int .i64 (k : Int), undef, undef, undef, undef, undef, .bool true, x13, x14, x15, x16, x17, x18, x19, x20, .string st, undef, undef, undef, undef, undef, undef, undef, undef, undef, undef, undef, undef, undef, undef, undef, undef, undef, undef, undef, undef, undef, undef, undef, undef, undef, undef, undef, undef, undef, undef, undef, undef, undef, undef, undef, undef, undef, undef, undef, undef, undef, undef]
def t4F (vn vg x13 x14 x15 x16 x17 x18 x19 x20 : Value) (k : Nat) (st : ByteArray) (pw : Nat) : Array Value := #[vn, vg, undef, undef, .bool false, .bool true, .int .i64 (k : Int), undef, undef, undef, undef, undef, .bool true, x13, x14, x15, x16, x17, x18, x19, x20, .string st, .pointer (some ⟨pw, 0, none⟩), undef, undef, undef, undef, undef, undef, undef, undef, undef, undef, undef, undef, undef, undef, undef, undef, undef, undef, undef, undef, undef, undef, undef, undef, undef, undef, undef, undef, undef, undef, undef, undef, undef, undef, undef, undef, undef, undef, undef, undef, undef]
def t4H (vn vg x13 x14 x15 x16 x17 x18 x19 x20 : Value) (k : Nat) (st : ByteArray) (pw : Nat) : Array Value := #[vn, vg, undef, undef, .bool false, .bool true, .int .i64 (k : Int), .pointer (some ⟨pw, 0, none⟩), undef, undef, undef, undef, .bool true, x13, x14, x15, x16, x17, x18, x19, x20, .string st, .pointer (some ⟨pw, 0, none⟩), undef, undef, undef, undef, undef, undef, undef, undef, undef, undef, undef, undef, undef, undef, undef, undef, undef, undef, undef, undef, undef, undef, undef, undef, undef, undef, undef, undef, undef, undef, undef, undef, undef, undef, undef, undef, undef, undef, undef, undef, undef]
def t4I (vn vg x13 x14 x15 x16 x17 x18 x19 x20 x23 x24 x25 x26 x27 x28 x29 x30 x31 x32 x33 x34 x35 x36 x37 x38 x39 x40 x41 x42 x43 : Value) (k : Nat) (st : ByteArray) (pw r rb : Nat) : Array Value := #[vn, vg, undef, undef, .bool false, .bool true, .int .i64 (k : Int), .pointer (some ⟨pw, 0, none⟩), .int .i64 (21000 + (r : Int)), .int .i64 (21003 + 26 * (k : Int)), .pointer (some ⟨rb, 0, none⟩), .nilIface, .bool true, x13, x14, x15, x16, x17, x18, x19, x20, .string st, .pointer (some ⟨pw, 0, none⟩), x23, x24, x25, x26, x27, x28, x29, x30, x31, x32, x33, x34, x35, x36, x37, x38, x39, x40, x41, x42, x43, undef, undef, undef, undef, undef, undef, undef, undef, undef, undef, undef, undef, undef, undef, undef, undef, undef, undef, undef, undef]
def t4J (vn vg x13 x14 x15 x16 x17 x18 x19 x20 x23 x24 x25 x26 x27 x28 x29 x30 x31 x32 x33 x34 x35 x36 x37 x38 x39 x40 x41 x42 x43 vb : Value) (k : Nat) (st : ByteArray) (pw r rb : Nat) : Array Value := #[vn, vg, undef, undef, .bool false, .bool true, .int .i64 (k : Int), .pointer (some ⟨pw, 0, none⟩), .int .i64 (21000 + (r : Int)), .int .i64 (21003 + 26 * (k : Int)), .pointer (some ⟨rb, 0, none⟩), .nilIface, .bool true, x13, x14, x15, x16, x17, x18, x19, x20, .string st, .pointer (some ⟨pw, 0, none⟩), x23, x24, x25, x26, x27, x28, x29, x30, x31, x32, x33, x34, x35, x36, x37, x38, x39, x40, x41, x42, x43, .int .i64 (21000 + (r : Int)), .int .i64 (21003 + 26 * (k : Int)), vb, undef, undef, undef, undef, undef, undef, undef, undef, undef, undef, undef, undef, undef, undef, undef, undef, undef]
section
variable {h0 : Array Obj} {cs : List Frame} {vn vg : Value}
theorem sLp1' {T12 : Array Value} (hT : T12 = Array.replicate 76 undef) : GoW Tryz.prog true AtRel DSil (fun g w => g = G ((base 12).at ⟨T12, []⟩ [.code (Tryz.f12.body.getD .skip)]) (((base 4).at ⟨(t4A vn vg), []⟩ (.inRegion ops41 [0, 1] :: [.code c4])) :: cs) /\ w.heap = h0) (fun w => w.heap = h0) 40
   (G ((base 4).at ⟨#[vn, vg] ++ Array.replicate 62 undef, []⟩ [.code (Tryz.f4.body.getD .skip)]) cs) := sLp1 hT
theorem sLp2'  : GoW Tryz.prog true AtRel DSil (fun g w => g = G ((base 4).at ⟨(t4C vn vg), []⟩ ([.code c4])) cs /\ w.heap = h0) (fun w => w.heap = h0) 40
   (G ((base 4).at ⟨(t4B vn vg), []⟩ (.inRegion ops41 [1] :: [.code c4])) cs) := sLp2
theorem sLp3' {x13 x14 x15 : Value} {k : Nat} : GoW Tryz.prog true AtRel DSil (fun g w => g = G ((base 4).at ⟨(t4D vn vg x13 x14 x15 k), []⟩ (.inRegion ops43 ([0, 1, 2, 3, 4, 5] ++ [6, 7]) :: [.code r4])) cs /\ w.heap = h0) (fun w => w.heap = h0) 40
   (G ((base 4).at ⟨(t4D vn vg x13 x14 x15 k), []⟩ ([.code d4])) cs) := sLp3
theorem sLp4' {x13 x14 x15 x16 x17 x18 x19 x20 : Value} {k : Nat} {st : ByteArray} : GoW Tryz.prog true AtRel DSil (fun g w => g = G ((base 14).at ⟨#[.string st] ++ Array.replicate 15 undef, []⟩ [.code (Tryz.f14.body.getD .skip)]) (((base 4).at ⟨(t4E vn vg x13 x14 x15 x16 x17 x18 x19 x20 k st), []⟩ (.inRegion ops43 [6, 7] :: [.code r4])) :: cs) /\ w.heap = h0) (fun w => w.heap = h0) 40
   (G ((base 4).at ⟨(t4E vn vg x13 x14 x15 x16 x17 x18 x19 x20 k st), []⟩ (.inRegion ops43 [6, 7] :: [.code r4])) cs) := sLp4
theorem sLp5' {x13 x14 x15 x16 x17 x18 x19 x20 : Value} {k : Nat} {st : ByteArray} {pw : Nat} : GoW Tryz.prog true AtRel DSil (fun g w => g = G ((base 4).at ⟨(t4H vn vg x13 x14 x15 x16 x17 x18 x19 x20 k st pw), []⟩ ([.code r4])) cs /\ w.heap = h0) (fun w => w.heap = h0) 40
   (G ((base 4).at ⟨(t4F vn vg x13 x14 x15 x16 x17 x18 x19 x20 k st pw), []⟩ (.inRegion ops43 [7] :: [.code r4])) cs) := sLp5
theorem sLp6y' {x13 x14 x15 x16 x17 x18 x19 x20 : Value} {k : Nat} {st : ByteArray} {x23 x24 x25 x26 x27 x28 x29 x30 x31 x32 x33 x34 x35 x36 x37 x38 x39 x40 x41 x42 x43 : Value} {pw r rb : Nat} (hge : 21003 + 26 * (k : Int) <= 21000 + (r : Int)) : GoW Tryz.prog true AtRel DSil (fun g w => g = G ((base 4).at ⟨(t4J vn vg x13 x14 x15 x16 x17 x18 x19 x20 x23 x24 x25 x26 x27 x28 x29 x30 x31 x32 x33 x34 x35 x36 x37 x38 x39 x40 x41 x42 x43 (.bool true) k st pw r rb), []⟩ ([.code (.seq r12 .ret), .code (.seq r13 .ret)])) cs /\ w.heap = h0) (fun w => w.heap = h0) 40
   (G ((base 4).at ⟨(t4I vn vg x13 x14 x15 x16 x17 x18 x19 x20 x23 x24 x25 x26 x27 x28 x29 x30 x31 x32 x33 x34 x35 x36 x37 x38 x39 x40 x41 x42 x43 k st pw r rb), []⟩ ([.code q4])) cs) := sLp6y hge _ _ _ _ _ _ _ _ _ _ _ _ _ _ _ _ _ _ _ _ _ _ _ _ _ _ _ _ _ _ _ _ _ _ _ _ _ _
theorem sLp6n' {x13 x14 x15 x16 x17 x18 x19 x20 : Value} {k : Nat} {st : ByteArray} {x23 x24 x25 x26 x27 x28 x29 x30 x31 x32 x33 x34 x35 x36 x37 x38 x39 x40 x41 x42 x43 : Value} {pw r rb : Nat} (hge : ¬ 21003 + 26 * (k : Int) <= 21000 + (r : Int)) : GoW Tryz.prog true AtRel DSil (fun g w => g = G ((base 4).at ⟨(t4J vn vg x13 x14 x15 x16 x17 x18 x19 x20 x23 x24 x25 x26 x27 x28 x29 x30 x31 x32 x33 x34 x35 x36 x37 x38 x39 x40 x41 x42 x43 (.bool false) k st pw r rb), []⟩ ([.code (.seq r13 .ret)])) cs /\ w.heap = h0) (fun w => w.heap = h0) 40
   (G ((base 4).at ⟨(t4I vn vg x13 x14 x15 x16 x17 x18 x19 x20 x23 x24 x25 x26 x27 x28 x29 x30 x31 x32 x33 x34 x35 x36 x37 x38 x39 x40 x41 x42 x43 k st pw r rb), []⟩ ([.code q4])) cs) := sLp6n hge _ _ _ _ _ _ _ _ _ _ _ _ _ _ _ _ _ _ _ _ _ _ _ _ _ _ _ _ _ _ _ _ _ _ _ _ _ _
end
theorem actA {vn vg : Value} : after (base 4) ⟨t4A vn vg, []⟩ ops41 0 [1] [.code c4] (.bool true) = (base 4).at ⟨t4B vn vg, []⟩ (.inRegion ops41 [1] :: [.code c4]) := by kernel_rfl
theorem actE {vn vg : Value} {x13 x14 x15 x16 x17 x18 x19 x20 : Value} {k : Nat} {st : ByteArray} {pw : Nat} : after (base 4) ⟨(t4E vn vg x13 x14 x15 x16 x17 x18 x19 x20 k st), []⟩ ops43 6 [7] [.code r4] (.pointer (some ⟨pw, 0, none⟩)) = (base 4).at ⟨(t4F vn vg x13 x14 x15 x16 x17 x18 x19 x20 k st pw), []⟩ (.inRegion ops43 [7] :: [.code r4]) := by kernel_rfl
theorem chain4' {vg : Value} (n : Int) (hn : -9223372036854775808 <= n) (hn' : n <= 9223372036854775807) (u : World) (Φ : Act -> World -> Prop) (hΦ : ∀ (k : Nat) x13 x14 x15, 1 <= k -> k <= 255 -> Φ ⟨(t4D (.int .i64 n) vg x13 x14 x15 k), []⟩ u) :
  wpChain TryQ.prog (fun a' v' => a'.defers = [] /\ Φ a' v') [p4] ⟨(t4C (.int .i64 n) vg), []⟩ u := chain4 n vg hn hn' u Φ hΦ
theorem pre43' {vg : Value} (n : Int) {x13 x14 x15 : Value} {k : Nat} (hk1 : 1 <= k) (hk2 : k <= 255) (u : World) (Φ : Act -> World -> Prop) (hΦ : ∀ x16 x17 x18 x19 x20 st v', Below u.heap.size u v' -> ByteArray.data st = cd (UInt8.ofNat k) -> Φ ⟨(t4E (.int .i64 n) vg x13 x14 x15 x16 x17 x18 x19 x20 k st), []⟩ v') :
  wpOps TryQ.prog ops43 (fun e a' v' => e = .normal /\ a'.defers = [] /\ Φ a' v') [0, 1, 2, 3, 4, 5] ⟨(t4D (.int .i64 n) vg x13 x14 x15 k), []⟩ u := pre43 n vg x13 x14 x15 k hk1 hk2 u Φ hΦ
theorem Glob.kept {W W' : World} {a d li : Addr} (h : Glob W a d li) (hs : W.heap.size <= W'.heap.size) (hk : ∀ b c t f, b < BaseB.b0 -> W.heap[b]? = some (.cells c t f) -> W'.heap[b]? = some (.cells c t f)) : Glob W' a d li := by
 have row : ∀ b x, b < BaseB.b0 -> W.cell? ⟨b, 0, none⟩ = some x -> W'.cell? ⟨b, 0, none⟩ = some x := fun b x hb hx => by
  unfold World.cell? at hx
  cases ho : W.heap[b]? with
  | none => rw [ho] at hx; cases hx
  | some o =>
   cases o with
   | cells c e f => exact (World.cell?_of_block (a := ⟨b, 0, none⟩) ((hk b c e f hb ho).trans ho.symm)).trans (by unfold World.cell?; exact hx)
   | _ => rw [ho] at hx; cases hx
 have l0 := h.lo
 exact ⟨h.lo, Nat.le_trans h.low hs, row 1 _ (by omega) h.ng, row 0 _ (by omega) h.dp, row 3 _ (by omega) h.lt, row 4 _ (by omega) h.et, let ⟨c, t, e⟩ := h.oa; ⟨c, t, hk _ _ _ _ (by omega) e⟩, let ⟨c, t, e⟩ := h.od; ⟨c, t, hk _ _ _ _ (by omega) e⟩, let ⟨c, t, e⟩ := h.ol; ⟨c, t, hk _ _ _ _ (by omega) e⟩, h.ad, h.al⟩
theorem glob_on {W w v : World} {D : Nat -> Prop} {a d li : Addr} (h : Glob W a d li) (hdk : Dk BaseB.b0 D w) (hrel : Rel (veil D) w v) (hkw : ∀ b, b < BaseB.b0 -> w.heap[b]? = W.heap[b]?) (hup : W.heap.size <= w.heap.size) : Glob v a d li := by
 refine h.kept (by rw [hrel.size]; exact hup) (fun b c t f hb hc => ?_)
 refine rel_up hrel ((hkw b hb).trans hc) (fun hd => ?_)
 rcases hdk b hd with ⟨h1, _⟩ | ⟨_, o, ho, hf, _⟩
 ·omega
 ·rw [hkw b hb, hc] at ho
  cases ho
  exact hf trivial
theorem looped_runs {Shun : Loc -> Prop} {D : Nat -> Prop} {n z : Int} {o : Nat} {a d li : Addr} {w v : World} {m : Machine} {t : Trace}
  (hB : BaseB.b0 <= w.heap.size) (hgl : Glob w a d li) (hrel : Rel (veil D) w v) (hdk : Dk BaseB.b0 D w) (hhid : Hides (veil D) Shun) (ho : o + 200 < 2147483647) (hn : -9223372036854775808 <= n) (hn' : n <= 9223372036854775807) (hz : -9223372036854775808 <= z) (hz' : z <= 9223372036854775807)
  (hst : Stand Tryz.prog Shun w.heap.size (o + 1) (G ((base 4).at ⟨#[.int .i64 n, .int .i64 z] ++ Array.replicate 62 undef, []⟩ [.code (Tryz.f4.body.getD .skip)]) []) w m t) :
  Runs Tryz.prog m t fun m' t' => ∃ (w' : World) (Shun' : Loc -> Prop) (N : Nat) (T : Array Value) (todo : List Item), (∀ b, b < BaseB.b0 -> w'.heap[b]? = w.heap[b]?) /\ (w'.os = w.os /\ w'.output = w.output) /\ w.heap.size <= w'.heap.size /\ T[4]? = some (.bool true) /\
   Stand Tryz.prog Shun' w'.heap.size N (G { (base 4).at ⟨T, []⟩ todo with mode := .returning } []) w' m' t' := by
 obtain ⟨T12, hT12⟩ : ∃ T, T = Array.replicate 76 undef := ⟨_, rfl⟩
 refine (runs_sil (sLp1' (h0 := w.heap) hT12) rfl hst).then fun m1 t1 h1 => ?_
 clear hst
 obtain ⟨g1, w1, ⟨rfl, hh1⟩, ho1, hst1⟩ := h1
 have hon1 := onto_sil (w' := w1) hdk hrel hhid hh1 ho1
 have hsz1 : w1.heap.size = w.heap.size := by rw [hh1]
 rw [<- hsz1] at hst1
 -- known
 refine (known_runs (o := o) hT12 (Nat.le_trans hB hon1.up) hon1.rel hon1.dk hon1.hid (by omega) rfl rfl oko41 (fun x hx => by rw [List.mem_singleton.1 hx]; exact okc4') hst1).then fun m2 t2 h2 => ?_
 clear hst1 hT12
 obtain ⟨w2, v2, Shun2, D2, o2, hon2', hhid2, ho2, hst2⟩ := h2
 have hon2 := hon1.toOn0.trans hon2'
 rw [actA] at hst2
 refine (runs_sil (sLp2' (h0 := w2.heap)) rfl hst2).then fun m3 t3 h3 => ?_
 clear hst2
 obtain ⟨g3, w3, ⟨rfl, hh3⟩, ho3, hst3⟩ := h3
 have hon3 := hon2.trans (onto_sil (w' := w3) hon2.dk hon2.rel hhid2 hh3 ho3).toOn0
 have hsz3 : w3.heap.size = w2.heap.size := by rw [hh3]
 rw [<- hsz3, c4_eq] at hst3
 -- the count
 have hwill4 := lift_chain (D := D2) (l := [p4]) (c := d4) (b := base 4) (k := []) (cw := []) (w := w3) (a := ⟨t4C (.int .i64 n) (.int .i64 z), []⟩)
  (Φ := fun a' v' => ∃ k x13 x14 x15, 1 <= k /\ k <= 255 /\ a' = ⟨t4D (.int .i64 n) (.int .i64 z) x13 x14 x15 k, []⟩ /\ Rel (veil D2) w3 v') rfl rfl okc4 okd4 (fun x hx => by cases hx) ⟨_, hon3.rel⟩
  (fun u hu => chain4' n hn hn' u _ (fun k x13 x14 x15 h1 h2 => ⟨k, x13, x14, x15, h1, h2, rfl, hu⟩))
 refine (runs_will hhid2 hwill4 hst3).then fun m4 t4 h4 => ?_
 clear hst3 hwill4
 obtain ⟨g4, w4, ⟨a4, v4, rfl, hr4, hs4, _, k, x13, x14, x15, hk1, hk2, rfl, hu4⟩, hst4⟩ := h4
 have hon4 := hon3.trans (onto_lone hon3.dk hon3.rel hhid2 (Nat.le_trans hB hon3.up) hu4 hr4 hs4 (Below.refl _ _)).toOn0
 refine (runs_sil (sLp3' (h0 := w4.heap)) rfl hst4).then fun m5 t5 h5 => ?_
 clear hst4
 obtain ⟨g5, w5, ⟨rfl, hh5⟩, ho5, hst5⟩ := h5
 have hon5 := hon4.trans (onto_sil (w' := w5) hon4.dk hon4.rel hhid2 hh5 ho5).toOn0
 have hsz5 : w5.heap.size = w4.heap.size := by rw [hh5]
 rw [<- hsz5] at hst5
 -- the code
 have hwill6 := lift_pre (D := D2) (ops := ops43) (l := [0, 1, 2, 3, 4, 5]) (l2 := [6, 7]) (b := base 4) (k := [.code r4]) (cw := []) (w := w5) (a := ⟨t4D (.int .i64 n) (.int .i64 z) x13 x14 x15 k, []⟩)
  (Φ := fun a' v' => ∃ u x16 x17 x18 x19 x20 st, Rel (veil D2) w5 u /\ a' = ⟨(t4E (.int .i64 n) (.int .i64 z) x13 x14 x15 x16 x17 x18 x19 x20 k st), []⟩ /\ Below u.heap.size u v' /\ ByteArray.data st = cd (UInt8.ofNat k)) rfl rfl oko43 (fun x hx => by rw [List.mem_singleton.1 hx]; exact okr4) ⟨_, hon5.rel⟩
  (fun u hu => pre43' n hk1 hk2 u _ (fun x16 x17 x18 x19 x20 st v' hb hst => ⟨u, x16, x17, x18, x19, x20, st, hu, rfl, hb, hst⟩))
 refine (runs_will hhid2 hwill6 hst5).then fun m6 t6 h6 => ?_
 clear hst5 hwill6
 obtain ⟨g6, w6, ⟨a6, v6, rfl, hr6, hs6, _, u6, x16, x17, x18, x19, x20, st, hu6, rfl, hb6, hsd⟩, hst6⟩ := h6
 have hon6 := hon5.trans (onto_lone hon5.dk hon5.rel hhid2 (Nat.le_trans hB hon5.up) hu6 hr6 hs6 hb6).toOn0
 refine (runs_sil (sLp4' (h0 := w6.heap)) rfl hst6).then fun m7 t7 h7 => ?_
 clear hst6
 obtain ⟨g7, w7, ⟨rfl, hh7⟩, ho7, hst7⟩ := h7
 have hon7 := hon6.trans (onto_sil (w' := w7) hon6.dk hon6.rel hhid2 hh7 ho7).toOn0
 have hsz7 : w7.heap.size = w6.heap.size := by rw [hh7]
 rw [<- hsz7] at hst7
 have hss : st.size = 12 := by
  show st.data.size = 12
  rw [hsd]
  rfl
 -- one
 refine (one_runs (o := o2) (by omega) (Nat.le_trans hB hon7.up) (Nat.le_trans hB hon7.up) hon7.rel hon7.dk hhid2 (by omega) rfl rfl oko43 (fun x hx => by rw [List.mem_singleton.1 hx]; exact okr4) hst7).then fun m8 t8 h8 => ?_
 clear hst7
 obtain ⟨w8, v8, Shun8, D8, o8, pw, pl, L, hon8', ho8, hpw, hmade, hst8⟩ := h8
 have hon8 := hon7.trans hon8'.toOn0
 have hhid8 := hon8'.hid
 rw [actE] at hst8
 refine (runs_sil (sLp5' (h0 := w8.heap)) rfl hst8).then fun m9 t9 h9 => ?_
 clear hst8
 obtain ⟨g9, w9, ⟨rfl, hh9⟩, ho9, hst9⟩ := h9
 have hon9' := onto_sil (w' := w9) hon8.dk hon8.rel hhid8 hh9 ho9
 have hon9 := hon8.trans hon9'.toOn0
 have hsz9 : w9.heap.size = w8.heap.size := by rw [hh9]
 rw [<- hsz9, r4_eq] at hst9
 -- the order
 have hwill10 := lift_chain (D := D8) (l := g5) (c := q4) (b := base 4) (k := []) (cw := []) (w := w9) (a := ⟨(t4H (.int .i64 n) (.int .i64 z) x13 x14 x15 x16 x17 x18 x19 x20 k st pw), []⟩)
  (Φ := fun a' v' => ∃ u x23 x24 x25 x26 x27 x28 x29 x30 x31 x32 x33 x34 x35 x36 x37 x38 x39 x40 x41 x42 x43 r rb, Rel (veil D8) w9 u /\ a' = ⟨(t4I (.int .i64 n) (.int .i64 z) x13 x14 x15 x16 x17 x18 x19 x20 x23 x24 x25 x26 x27 x28 x29 x30 x31 x32 x33 x34 x35 x36 x37 x38 x39 x40 x41 x42 x43 k st pw r rb), []⟩ /\ Bz u v' /\ v'.heap[rb]? = some (.cells (resC (outR (21003 + 26 * k) (21000 + r)).good (outR (21003 + 26 * k) (21000 + r)).k (outR (21003 + 26 * k) (21000 + r)).s) 34 (0, 0))) rfl rfl okr5 okq4 (fun x hx => by cases hx) ⟨_, hon9.rel⟩
  (fun u hu => by
   have htu := tw_rel hon9.dk hon9.rel hu
   obtain ⟨mm, dmb, p1, ms1, b1, p2, ms2, b2, hL, hlg, hne, hmk⟩ := made_two (hmade.tw htu)
   rw [hss] at hL hmk
   have hst' : st = ⟨cd (UInt8.ofNat k)⟩ := by rw [<- hsd]
   exact chain5 hlg (htu.obj _ _ hpw (.inl trivial)) (by rw [hu.size]; exact Nat.le_trans hB hon9.up) (glob_on hgl hon9.dk hu hon9.kw hon9.up) (q := _) (p := _) (by rw [hL]; exact List.mem_cons_self) (by rw [hL]; exact List.mem_cons_of_mem _ List.mem_cons_self) hne rfl rfl rfl rfl k hk1 hk2 hsd rfl hmk (by rw [hst']; exact marks_cd _) _ _ _ _ _ _ _ _ _ _ _ z hz hz' _
    (fun r rb x23 x24 x25 x26 x27 x28 x29 x30 x31 x32 x33 x34 x35 x36 x37 x38 x39 x40 x41 x42 x43 v' hbz hrow => ⟨u, x23, x24, x25, x26, x27, x28, x29, x30, x31, x32, x33, x34, x35, x36, x37, x38, x39, x40, x41, x42, x43, r, rb, hu, rfl, hbz, hrow⟩))
 refine (runs_will hhid8 hwill10 hst9).then fun m10 t10 h10 => ?_
 clear hst9 hwill10
 obtain ⟨g10, w10, ⟨a10, v10, rfl, hr10, hs10, _, u10, x23, x24, x25, x26, x27, x28, x29, x30, x31, x32, x33, x34, x35, x36, x37, x38, x39, x40, x41, x42, x43, r, rb, hu10, rfl, hbz, hrow⟩, hst10⟩ := h10
 have hon10 := hon9.trans (on0_bare hon9.dk hu10 hr10 hs10 (Nat.le_trans hB hon9.up) hbz.toBelow hbz.kz)
 by_cases hge : 21003 + 26 * k <= 21000 + r
 ·have hoR : outR (21003 + 26 * k) (21000 + r) = ⟨true, ⟨#[]⟩, ((21000 + r - (21003 + 26 * k) : Nat) : Int), 0, ((21003 + 26 * k : Nat) : Int)⟩ := if_pos hge
  rw [hoR] at hrow
  have e0 : ((21003 + 26 * k : Nat) : Int) = 21003 + 26 * (k : Int) := by omega
  simp only [e0] at hrow
  refine (runs_sil (sLp6y' (h0 := w10.heap) (by omega)) rfl hst10).then fun m11 t11 h11 => ?_
  clear hst10
  obtain ⟨g11, w11, ⟨rfl, hh11⟩, ho11, hst11⟩ := h11
  have hon11' := onto_sil (w' := w11) hon10.dk hon10.rel hhid8 hh11 ho11
  have hon11 := hon10.trans hon11'.toOn0
  have hsz11 : w11.heap.size = w10.heap.size := by rw [hh11]
  rw [<- hsz11] at hst11
  have hwill12 := lift_chain (D := D8) (l := [r12]) (c := .ret) (b := base 4) (k := [.code (.seq r13 .ret)]) (cw := []) (w := w11) (a := ⟨(t4J (.int .i64 n) (.int .i64 z) x13 x14 x15 x16 x17 x18 x19 x20 x23 x24 x25 x26 x27 x28 x29 x30 x31 x32 x33 x34 x35 x36 x37 x38 x39 x40 x41 x42 x43 (.bool true) k st pw r rb), []⟩)
   (Φ := fun a' v' => ∃ T, a' = ⟨T, []⟩ /\ T[4]? = some (.bool true) /\ Rel (veil D8) w11 v') rfl rfl okr12 rfl (fun x hx => by rw [List.mem_singleton.1 hx]; exact okr13') ⟨_, hon11.rel⟩
   (fun u hu => end_r12 _ _ _ _ _ _ _ _ _ _ _ _ _ _ _ _ _ _ _ _ _ _ _ _ _ _ _ _ _ _ _ _ _ _ _ _ _ _ u ((tw_rel hon11.dk hon11.rel hu).obj _ _ hrow (.inl trivial)) _ (fun T hT => ⟨T, rfl, hT, hu⟩))
  refine (runs_will hhid8 hwill12 hst11).then fun m12 t12 h12 => ?_
  clear hst11 hwill12
  obtain ⟨g12, w12, ⟨a12, v12, rfl, hr12, hs12, _, T', rfl, hT', hu12⟩, hst12⟩ := h12
  have hon12 := hon11.trans (onto_lone hon11.dk hon11.rel hhid8 (Nat.le_trans hB hon11.up) hu12 hr12 hs12 (Below.refl _ _)).toOn0
  refine (runs_sil (sLp7 (h0 := w12.heap) T' hT') rfl hst12).mono fun m13 t13 h13 => ?_
  obtain ⟨g13, w13, ⟨⟨T3, todo, rfl, hT3⟩, hh13⟩, ho13, hst13⟩ := h13
  have hon13 := hon12.trans (onto_sil (w' := w13) hon12.dk hon12.rel hhid8 hh13 ho13).toOn0
  have hsz13 : w13.heap.size = w12.heap.size := by rw [hh13]
  rw [<- hsz13] at hst13
  exact ⟨w13, _, _, T3, todo, hon13.kw, hon13.os, hon13.up, hT3, hst13⟩
 ·have hoR : outR (21003 + 26 * k) (21000 + r) = ⟨false, ⟨#[]⟩, 0, 0, ((21000 + r : Nat) : Int)⟩ := if_neg hge
  rw [hoR] at hrow
  have e0 : ((21000 + r : Nat) : Int) = 21000 + (r : Int) := by omega
  simp only [e0] at hrow
  refine (runs_sil (sLp6n' (h0 := w10.heap) (by omega)) rfl hst10).then fun m11 t11 h11 => ?_
  clear hst10
  obtain ⟨g11, w11, ⟨rfl, hh11⟩, ho11, hst11⟩ := h11
  have hon11' := onto_sil (w' := w11) hon10.dk hon10.rel hhid8 hh11 ho11
  have hon11 := hon10.trans hon11'.toOn0
  have hsz11 : w11.heap.size = w10.heap.size := by rw [hh11]
  rw [<- hsz11] at hst11
  have hwill12 := lift_chain (D := D8) (l := [r13]) (c := .ret) (b := base 4) (k := []) (cw := []) (w := w11) (a := ⟨(t4J (.int .i64 n) (.int .i64 z) x13 x14 x15 x16 x17 x18 x19 x20 x23 x24 x25 x26 x27 x28 x29 x30 x31 x32 x33 x34 x35 x36 x37 x38 x39 x40 x41 x42 x43 (.bool false) k st pw r rb), []⟩)
   (Φ := fun a' v' => ∃ T, a' = ⟨T, []⟩ /\ T[4]? = some (.bool true) /\ Rel (veil D8) w11 v') rfl rfl okr13 rfl (fun x hx => by cases hx) ⟨_, hon11.rel⟩
   (fun u hu => end_r13 _ _ _ _ _ _ _ _ _ _ _ _ _ _ _ _ _ _ _ _ _ _ _ _ _ _ _ _ _ _ _ _ _ _ _ _ _ _ _ u ((tw_rel hon11.dk hon11.rel hu).obj _ _ hrow (.inl trivial)) _ (fun T hT => ⟨T, rfl, hT, hu⟩))
  refine (runs_will hhid8 hwill12 hst11).then fun m12 t12 h12 => ?_
  clear hst11 hwill12
  obtain ⟨g12, w12, ⟨a12, v12, rfl, hr12, hs12, _, T', rfl, hT', hu12⟩, hst12⟩ := h12
  have hon12 := hon11.trans (onto_lone hon11.dk hon11.rel hhid8 (Nat.le_trans hB hon11.up) hu12 hr12 hs12 (Below.refl _ _)).toOn0
  refine (runs_sil (sLp7 (h0 := w12.heap) T' hT') rfl hst12).mono fun m13 t13 h13 => ?_
  obtain ⟨g13, w13, ⟨⟨T3, todo, rfl, hT3⟩, hh13⟩, ho13, hst13⟩ := h13
  have hon13 := hon12.trans (onto_sil (w' := w13) hon12.dk hon12.rel hhid8 hh13 ho13).toOn0
  have hsz13 : w13.heap.size = w12.heap.size := by rw [hh13]
  rw [<- hsz13] at hst13
  exact ⟨w13, _, _, T3, todo, hon13.kw, hon13.os, hon13.up, hT3, hst13⟩
end Go.Mark
set_option maxRecDepth 100000
namespace Go.Mark
open Go.Conc Go.Walk Go.Phase Go.RowKit Go.Lift Go.Proofs
section
variable [BaseB]
def D0 (W : World) (b : Nat) : Prop := ∃ o, W.heap[b]? = some o /\ ¬ Fine (veil fun _ => False) o /\ ¬ IsView o
theorem rel0 (W : World) : ∃ v, Rel (veil (D0 W)) W v := by
 refine exists_rel (fun b hb => ?_) (fun b o ho hv hf => ⟨o, ho, fun h => hf (fine_veil.1 h), hv⟩) (fun b c e f hb hc => ?_)
 ·obtain ⟨o, ho, _⟩ := hb
  exact (Array.getElem?_eq_some_iff.1 ho).1
 ·obtain ⟨o, ho, hf, _⟩ := hb
  rw [hc] at ho
  cases ho
  exact absurd trivial hf
theorem dk0 (W : World) : Dk W.heap.size (D0 W) W := fun b hb => by
 obtain ⟨o, ho, hf, hv⟩ := hb
 exact .inr ⟨(Array.getElem?_eq_some_iff.1 ho).1, o, ho, fun h => hf (fine_veil.1 h), hv⟩
theorem stand0 (W : World) (g : Goroutine) : Stand Tryz.prog (fun _ => False) W.heap.size (0 + 1) g W (solo g W) #[] :=
 ⟨#[g], none, fun _ => 0, rfl, rfl, rfl, leavers_one _ _, ⟨past_nil.mono (Nat.zero_le _), fun _ _ _ _ _ h => h.elim, fun op hop => by simp at hop, fun op hop => by simp at hop⟩⟩
end
theorem enter4 (x y : Value) : Frame.enter Tryz.prog 4 #[x, y] .normal = (base 4).at ⟨#[x, y] ++ Array.replicate 62 undef, []⟩ [.code (Tryz.f4.body.getD .skip)] := by
 have hb : Tryz.f4.body = some (Tryz.f4.body.getD .skip) := by kernel_rfl
 have hs : 64 - (#[x, y] : Array Value).size = 62 := rfl
 rw [enter_at _ Tryz.func4 hb, Tryz.ntmps4, hs]
theorem runN_add {P : Program} {m m' : Machine} {a : Nat} (h : runN P a m = .next m') (b : Nat) : runN P (a + b) m = runN P b m' := by
 induction a generalizing m with
 | zero =>
  simp only [runN, Stepped.next.injEq] at h
  subst h
  rw [Nat.zero_add]
 | succ a ih =>
  rw [Nat.succ_add]
  simp only [runN] at h ⊢
  cases hs : step P m with
  | next m1 =>
   rw [hs] at h
   exact ih h
  | ended o w =>
   rw [hs] at h
   cases h
def PostM (W : World) (v : Value) (w' : World) : Prop := v = .bool true /\ (∀ b, b < W.heap.size -> w'.heap[b]? = W.heap[b]?) /\ (w'.os = W.os /\ w'.output = W.output) /\ W.heap.size <= w'.heap.size
theorem the_run4 (W : World) (n z : Int) (hn : -9223372036854775808 <= n) (hn' : n <= 9223372036854775807) (hz : -9223372036854775808 <= z) (hz' : z <= 9223372036854775807) {a d li : Addr} (hgl : @Glob ⟨W.heap.size⟩ W a d li) :
  ∃ M last o w' t', runNT Tryz.prog (M + 1) (solo (G (Frame.enter Tryz.prog 4 #[.int .i64 n, .int .i64 z] .normal) []) W) #[] = (.ended o w', t') /\ runN Tryz.prog M (solo (G (Frame.enter Tryz.prog 4 #[.int .i64 n, .int .i64 z] .normal) []) W) = .next last /\
   step Tryz.prog last = .ended o w' /\ Conc.Good Tryz.prog (PostM W) last o w' t' := by
 letI : BaseB := ⟨W.heap.size⟩
 obtain ⟨v, hrel⟩ := rel0 W
 rw [enter4]
 obtain ⟨g0, hg0⟩ : ∃ g, g = G ((base 4).at ⟨#[.int .i64 n, .int .i64 z] ++ Array.replicate 62 undef, []⟩ [.code (Tryz.f4.body.getD .skip)]) [] := ⟨_, rfl⟩
 rw [<- hg0]
 have hst0 := stand0 W g0
 have hrs := looped_runs (o := 0) (n := n) (z := z) (D := D0 W) (w := W) (v := v) (m := solo g0 W) (t := #[]) (Shun := fun _ => False) (Nat.le_refl _) hgl hrel (dk0 W) (fun l hl => hl.elim) (by omega) hn hn' hz hz' (by rw [<- hg0]; exact hst0)
 clear hst0 hg0
 obtain ⟨N, m1, t1, hrun, w1, Shun1, N1, T, todo, hkw, hos, hup, hT, hst⟩ := hrs
 obtain ⟨gs, sl, q, rfl, hn, h0, hL, hP⟩ := hst.ex
 have hgo : Goes Tryz.prog true AtRel (fun _ _ _ => False) (AtEnd Tryz.prog Shun1 w1.heap.size (PostM W)) 0 (G { (base 4).at ⟨T, []⟩ todo with mode := .returning } []) w1 := fun w₂ h₂ => by
  obtain ⟨d, rfl⟩ := h₂
  refine ⟨rfl, .bool true, #[], ?_, by simp, rfl, hkw, hos, hup⟩
  simp [G, stepG, unwind, doReturn, results, Frame.at, base, Tryz.func4, seen, GStep.after, hT]
 obtain ⟨M, last, o, w', t', k1, k2, k3, k4⟩ := beside_ends (sl := sl) (fun _ _ _ h => h.elim) h0 hL hP.past hgo
 refine ⟨N + M, last, o, w', t', ?_, ?_, k3, k4⟩
 ·rw [Nat.add_assoc, runNT_add, hrun]
  exact k1
 ·rw [runN_add (by rw [<- runNT_fst _ _ _ #[], hrun])]
  exact k2
end Go.Mark
namespace Go.Mark
open Go.Proofs Go.RowKit Go.ChangeShapes
theorem gt0 : (Tryz.prog.globals[0]?).map (·.type) = some 36 := by kernel_rfl
theorem gt1 : (Tryz.prog.globals[1]?).map (·.type) = some 36 := by kernel_rfl
theorem gt3 : (Tryz.prog.globals[3]?).map (·.type) = some 36 := by kernel_rfl
theorem gn0 : Tryz.prog.globalNamed "purser/machine.ErrDeep" = some 0 := by kernel_rfl
theorem gn1 : Tryz.prog.globalNamed "purser/machine.ErrNoGas" = some 1 := by kernel_rfl
theorem gn3 : Tryz.prog.globalNamed "purser/ledger.ErrLittle" = some 3 := by kernel_rfl
theorem gn4 : Tryz.prog.globalNamed "errors.errorType" = some 4 := by kernel_rfl
theorem tsz : Tryz.prog.types.size = 443 := by kernel_rfl
theorem rtp : (Tryz.prog.cutTypes.find? (·.1 == "internal/reflectlite.rtype")).map (·.2) = some 355 := by kernel_rfl
theorem oneRow : ((List.range 443).filter fun t => Tryz.prog.rowNamed t [101, 114, 114, 111, 114]) = [36] := by kernel_rfl
theorem hnd : typeHandle Tryz.prog 36 = .pointer (some ⟨11, 36, none⟩) := by kernel_rfl
theorem star : "*" ++ "errors.errorString" = "*errors.errorString" := by decide
theorem row407 (u : TypeId) (h : Tryz.prog.typeName? 3 u = some "*errors.errorString") : u = 407 :=
 typeName_ptr_named (nm := "errors.errorString") (by rw [star]; kernel_rfl) (by kernel_rfl) (by decide) u (by rw [star]; exact h)
theorem cells431 : Tryz.prog.cellsOf 431 = 1 := by kernel_rfl
theorem cells9' : Tryz.prog.cellsOf 9 = 1 := by kernel_rfl
theorem glob_of {W : World} {x0 x1 x3 : List UInt8} {r1 r2 : List (String × DataW Unit)} (h1 : laidMet Tryz.prog (("purser/machine.ErrNoGas", .iface "*errors.errorString" (.ptr (.agg [.lit (.string x1)]))) :: ("purser/machine.ErrDeep", .iface "*errors.errorString" (.ptr (.agg [.lit (.string x0)]))) :: r1) W)
  (h2 : laidMet Tryz.prog (("purser/ledger.ErrLittle", .iface "*errors.errorString" (.ptr (.agg [.lit (.string x3)]))) :: ("purser/machine.ErrNoGas", .iface "*errors.errorString" (.ptr (.agg [.lit (.string x1)]))) :: r2) W)
  (h3 : W.cell? ⟨4, 0, none⟩ = some (.iface 355 (.agg #[.pointer (some ⟨11, 36, none⟩)]))) : ∃ a d li, @Glob ⟨W.heap.size⟩ W a d li := by
 obtain ⟨a, d, _, _, ca, cd, ta, td, va, vd, _, _, _, _, _, _, had, ra, rd⟩ := laid_sentinels2 h1 gn1 gt1 gn0 gt0 Tryz.underlying36 row407 Tryz.underlying407 Tryz.underlying431 rfl rfl Tryz.underlying9 cells431 cells9'
 obtain ⟨li, a', _, _, cl, _, tl, _, vl, va', _, _, _, _, _, _, hla, rl, _⟩ := laid_sentinels2 h2 gn3 gt3 gn1 gt1 Tryz.underlying36 row407 Tryz.underlying407 Tryz.underlying431 rfl rfl Tryz.underlying9 cells431 cells9'
 obtain rfl : a = a' := by
  have := va.symm.trans va'
  simpa using this
 letI : BaseB := ⟨W.heap.size⟩
 have lt : ∀ {b : Nat} {o : Obj}, W.heap[b]? = some o -> b < W.heap.size := fun h => (Array.getElem?_eq_some_iff.1 h).1
 exact ⟨a, d, li, ⟨World.block_lt_of_cell? W ⟨4, 0, none⟩ h3, lt ra, lt rd, lt rl⟩, Nat.le_refl _, by simpa using World.var?_cell gn1 va 0, by simpa using World.var?_cell gn0 vd 0, by simpa using World.var?_cell gn3 vl 0, h3, ⟨_, _, ra⟩, ⟨_, _, rd⟩, ⟨_, _, rl⟩, had, fun e => hla e.symm⟩
end Go.Mark
