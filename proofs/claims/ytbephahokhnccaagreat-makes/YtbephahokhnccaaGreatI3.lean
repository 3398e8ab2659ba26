/-
 made (4): behind New.
-/
import Derived.Test.YtbephahokhnccaaGreatXI1toI2
namespace Go.Mark
open Go.RowKit Go.Proofs
theorem wpOps_rest {P : Program} {ops : Array Oper} {Q : Exit → Act → World → Prop} {a : Act} {w : World} (l : List Oper) (k n : Nat) (hn : l.length = n) (hl : ∀ j, l[j]? = ops[k + j]?) (h : wpList P ops Q l a w) : wpOps P ops Q (List.range' k n) a w := by
 rw [← hn, wpOps_eq_wpList l k hl]
 exact h
noncomputable def ops4 : Array Oper := match q4 with
 | .seq (.region _ o _) _ => o
 | _ => #[]
noncomputable def r4 : Code := match q4 with
 | .seq _ c => c
 | _ => .skip
noncomputable def c14 : Code := match r4 with
 | .seq c _ => c
 | _ => .skip
noncomputable def c15 : Code := match r4 with
 | .seq _ (.seq c _) => c
 | _ => .skip
noncomputable def l4 : Code := match r4 with
 | .seq _ (.seq _ (.seq c _)) => c
 | _ => .skip
noncomputable def t4 : Code := match r4 with
 | .seq _ (.seq _ (.seq _ c)) => c
 | _ => .skip
theorem r4_eq : r4 = .seq c14 (.seq c15 (.seq l4 t4)) := by kernel_rfl
theorem lit146 (T : Array Value) (h : T.size = 146) : ∃ t : Nat → Value, T = #[t 0, t 1, t 2, t 3, t 4, t 5, t 6, t 7, t 8, t 9, t 10, t 11, t 12, t 13, t 14, t 15, t 16, t 17, t 18, t 19, t 20, t 21, t 22, t 23, t 24, t 25, t 26, t 27, t 28, t 29, t 30, t 31, t 32, t 33, t 34, t 35, t 36, t 37, t 38, t 39, t 40, t 41, t 42, t 43, t 44, t 45, t 46, t 47, t 48, t 49, t 50, t 51, t 52, t 53, t 54, t 55, t 56, t 57, t 58, t 59, t 60, t 61, t 62, t 63, t 64, t 65, t 66, t 67, t 68, t 69, t 70, t 71, t 72, t 73, t 74, t 75, t 76, t 77, t 78, t 79, t 80, t 81, t 82, t 83, t 84, t 85, t 86, t 87, t 88, t 89, t 90, t 91, t 92, t 93, t 94, t 95, t 96, t 97, t 98, t 99, t 100, t 101, t 102, t 103, t 104, t 105, t 106, t 107, t 108, t 109, t 110, t 111, t 112, t 113, t 114, t 115, t 116, t 117, t 118, t 119, t 120, t 121, t 122, t 123, t 124, t 125, t 126, t 127, t 128, t 129, t 130, t 131, t 132, t 133, t 134, t 135, t 136, t 137, t 138, t 139, t 140, t 141, t 142, t 143, t 144, t 145] ∧ ∀ i x, T[i]? = some x → t i = x := by
 refine ⟨fun i => T[i]?.getD undef, ?_, fun i x hx => by simp [hx]⟩
 have e : #[T[0]?.getD undef, T[1]?.getD undef, T[2]?.getD undef, T[3]?.getD undef, T[4]?.getD undef, T[5]?.getD undef, T[6]?.getD undef, T[7]?.getD undef, T[8]?.getD undef, T[9]?.getD undef, T[10]?.getD undef, T[11]?.getD undef, T[12]?.getD undef, T[13]?.getD undef, T[14]?.getD undef, T[15]?.getD undef, T[16]?.getD undef, T[17]?.getD undef, T[18]?.getD undef, T[19]?.getD undef, T[20]?.getD undef, T[21]?.getD undef, T[22]?.getD undef, T[23]?.getD undef, T[24]?.getD undef, T[25]?.getD undef, T[26]?.getD undef, T[27]?.getD undef, T[28]?.getD undef, T[29]?.getD undef, T[30]?.getD undef, T[31]?.getD undef, T[32]?.getD undef, T[33]?.getD undef, T[34]?.getD undef, T[35]?.getD undef, T[36]?.getD undef, T[37]?.getD undef, T[38]?.getD undef, T[39]?.getD undef, T[40]?.getD undef, T[41]?.getD undef, T[42]?.getD undef, T[43]?.getD undef, T[44]?.getD undef, T[45]?.getD undef, T[46]?.getD undef, T[47]?.getD undef, T[48]?.getD undef, T[49]?.getD undef, T[50]?.getD undef, T[51]?.getD undef, T[52]?.getD undef, T[53]?.getD undef, T[54]?.getD undef, T[55]?.getD undef, T[56]?.getD undef, T[57]?.getD undef, T[58]?.getD undef, T[59]?.getD undef, T[60]?.getD undef, T[61]?.getD undef, T[62]?.getD undef, T[63]?.getD undef, T[64]?.getD undef, T[65]?.getD undef, T[66]?.getD undef, T[67]?.getD undef, T[68]?.getD undef, T[69]?.getD undef, T[70]?.getD undef, T[71]?.getD undef, T[72]?.getD undef, T[73]?.getD undef, T[74]?.getD undef, T[75]?.getD undef, T[76]?.getD undef, T[77]?.getD undef, T[78]?.getD undef, T[79]?.getD undef, T[80]?.getD undef, T[81]?.getD undef, T[82]?.getD undef, T[83]?.getD undef, T[84]?.getD undef, T[85]?.getD undef, T[86]?.getD undef, T[87]?.getD undef, T[88]?.getD undef, T[89]?.getD undef, T[90]?.getD undef, T[91]?.getD undef, T[92]?.getD undef, T[93]?.getD undef, T[94]?.getD undef, T[95]?.getD undef, T[96]?.getD undef, T[97]?.getD undef, T[98]?.getD undef, T[99]?.getD undef, T[100]?.getD undef, T[101]?.getD undef, T[102]?.getD undef, T[103]?.getD undef, T[104]?.getD undef, T[105]?.getD undef, T[106]?.getD undef, T[107]?.getD undef, T[108]?.getD undef, T[109]?.getD undef, T[110]?.getD undef, T[111]?.getD undef, T[112]?.getD undef, T[113]?.getD undef, T[114]?.getD undef, T[115]?.getD undef, T[116]?.getD undef, T[117]?.getD undef, T[118]?.getD undef, T[119]?.getD undef, T[120]?.getD undef, T[121]?.getD undef, T[122]?.getD undef, T[123]?.getD undef, T[124]?.getD undef, T[125]?.getD undef, T[126]?.getD undef, T[127]?.getD undef, T[128]?.getD undef, T[129]?.getD undef, T[130]?.getD undef, T[131]?.getD undef, T[132]?.getD undef, T[133]?.getD undef, T[134]?.getD undef, T[135]?.getD undef, T[136]?.getD undef, T[137]?.getD undef, T[138]?.getD undef, T[139]?.getD undef, T[140]?.getD undef, T[141]?.getD undef, T[142]?.getD undef, T[143]?.getD undef, T[144]?.getD undef, T[145]?.getD undef] = ((List.range 146).map fun i => T[i]?.getD undef).toArray := by rfl
 rw [e]
 refine Array.ext (by simp [h]) fun i h1 h2 => ?_
 simp [h1]
/-- the account that the owner writes over -/
abbrev d5 : AccD := ⟨5, 5, 0, ByteArray.empty, []⟩
abbrev e5 : AccD × SV := (d5, ⟨none, 0, 0⟩)
theorem d5_cells : accCells d5 ⟨none, 0, 0⟩ = [.int .i64 5, .int .u64 5, .int .u64 0, .int .u64 0, .int .u64 0, .int .i64 0, .string ByteArray.empty, .slice none 0 0] := by
 simp [accCells, lim]
/-- the blocks that made writes over behind New -/
def Xm (E : Nat) (es : List (AccD × SV)) (g : Nat) : Prop := g = E ∨ ∃ p ∈ es, p.2.a = some ⟨g, 0, none⟩
/-- memory in the loop behind New: j accounts are written over, r rooms -/
structure Post (E : Nat) (u W : World) (ds es : List (AccD × SV)) (vR : SV) (j r : Nat) : Prop where
 kept : Kept (Xm E es) u W
 own : W.ownsRow E 31 8 (.slice (some ⟨E, 0, none⟩) (ds.length + 8) (ds.length + 8)) (ds.length + 8) (flatA (List.replicate j e5 ++ (es ++ List.replicate 8 e79).drop j))
 rooms : W.ownsRow (E + 1) 29 1 (.slice vR.a vR.n vR.c) es.length (es.map roomV)
 room : ∀ (i : Nat) (p : AccD × SV), es[i]? = some p → r ≤ i → ∃ g, p.2 = ⟨some ⟨g, 0, none⟩, p.1.slots.length, p.1.slots.length + 8⟩ ∧ E < g ∧ RoomAt W g p.1.slots ∧ (Value.slice vR.a vR.n vR.c).ownBlock ≠ some g
theorem Post.start {E : Nat} {u : World} {ds es : List (AccD × SV)} {vR : SV} (h : Lay E u ds es 8 vR []) : Post E u u ds es vR 0 0 :=
 ⟨Kept.refl _ _, by have := h.own; rw [List.append_nil] at this; simpa using this, h.rooms, fun i p hp _ => h.room p (List.mem_of_getElem? hp)⟩
theorem Post.keep {E : Nat} {u W W' : World} {ds es : List (AccD × SV)} {vR : SV} {j r : Nat} (h : Post E u W ds es vR j r) (hb : Below W.heap.size W W') : Post E u W' ds es vR j r :=
 ⟨h.kept.trans (kept_below hb) (fun _ _ x => x) (fun g hg x => absurd (Nat.lt_of_lt_of_le hg h.kept.size) (by omega)), own_below h.own hb, own_below h.rooms hb, fun i p hp hi => let ⟨g, h1, h2, h3, h4⟩ := h.room i p hp hi; ⟨g, h1, h2, h3.same (hb.block g h3.lt), h4⟩⟩
theorem Post.low {E : Nat} {u W : World} {ds es : List (AccD × SV)} {vR : SV} {j r : Nat} (h : Post E u W ds es vR j r) (hE : E < u.heap.size) (hx : ∀ p ∈ es, ∀ g, p.2.a = some ⟨g, 0, none⟩ → E < g) : ∀ b, b < E → W.heap[b]? = u.heap[b]? := fun b hb =>
 h.kept.block b (by omega) (fun x => by
  rcases x with x | ⟨p, hp, x⟩
  ·omega
  ·have := hx p hp b x; omega)
/-- a room is written over -/
theorem Post.stilled {E : Nat} {u W W' : World} {ds es : List (AccD × SV)} {vR : SV} {j r g : Nat} {p : AccD × SV} (h : Post E u W ds es vR j r) (hp : es[r]? = some p) (hg : p.2.a = some ⟨g, 0, none⟩) (hgE : E < g) (hvg : (Value.slice vR.a vR.n vR.c).ownBlock ≠ some g) (hnd : (es.map (·.2.a)).Nodup) (hb : W.grownBy W' (some g)) : Post E u W' ds es vR j (r + 1) := by
 have hm := List.mem_of_getElem? hp
 refine ⟨h.kept.trans (kept_grown hb) (fun _ _ x => x) (fun k _ x => .inr ⟨p, hm, by rw [hg]; cases x; rfl⟩), own_grown h.own hb (fun k hk e => by cases hk; cases e; exact Nat.lt_irrefl E hgE), own_grown h.rooms hb (fun k hk e => by cases e; exact hvg hk), fun i q hq hi => ?_⟩
 obtain ⟨k, x1, x2, x3, x4⟩ := h.room i q hq (by omega)
 refine ⟨k, x1, x2, x3.same (hb.block k x3.lt (fun e => ?_)), x4⟩
 cases e
 have e1 : (es.map (·.2.a))[i]? = some (some ⟨g, 0, none⟩) := by rw [List.getElem?_map, hq, Option.map_some, x1]
 have e2 : (es.map (·.2.a))[r]? = some (some ⟨g, 0, none⟩) := by rw [List.getElem?_map, hp, Option.map_some, hg]
 have hi1 := (List.getElem?_eq_some_iff.1 e1).1
 have := (List.getElem?_inj hi1 hnd).1 (e1.trans e2.symm)
 omega
/-- an account is written over -/
theorem Post.wrote {E : Nat} {u W : World} {ds es : List (AccD × SV)} {vR : SV} {j r : Nat} (h : Post E u W ds es vR j r) (hj : j < ds.length + 8) (hel : es.length = ds.length) : Post E u (W.setCells E (j * 8) (accCells d5 ⟨none, 0, 0⟩)) ds es vR (j + 1) r := by
 have h1 := own_put (accCells d5 ⟨none, 0, 0⟩) W _ (j * 8) h.own
 rw [flatA_put _ j e5 (by simp; omega)] at h1
 have hL : (es ++ List.replicate 8 e79).length = ds.length + 8 := by simp [hel]
 have e : (List.replicate j e5 ++ (es ++ List.replicate 8 e79).drop j).set j e5 = List.replicate (j + 1) e5 ++ (es ++ List.replicate 8 e79).drop (j + 1) := by
  rw [List.set_append_right _ _ (by simp), List.length_replicate, Nat.sub_self, List.drop_eq_getElem_cons (by rw [hL]; exact hj), List.set_cons_zero, List.replicate_succ' (n := j), List.append_assoc]
  rfl
 rw [e] at h1
 refine ⟨h.kept.trans (kept_grown h1.2) (fun _ _ x => x) (fun k _ x => .inl (by cases x; rfl)), h1.1, own_grown h.rooms h1.2 (fun k hk e => by cases e; have := own_ge h.rooms _ hk; omega), fun i p hp hi => ?_⟩
 obtain ⟨g, x1, x2, x3, x4⟩ := h.room i p hp hi
 exact ⟨g, x1, x2, x3.same (h1.2.block g x3.lt (fun e => by cases e; omega)), x4⟩
theorem Post.at {E : Nat} {u W : World} {ds es : List (AccD × SV)} {vR : SV} {j r : Nat} (h : Post E u W ds es vR j r) {p : AccD × SV} (hp : (es ++ List.replicate 8 e79)[j]? = some p) : CellsAt W E (j * 8) (accCells p.1 p.2) :=
 own_acc (l := List.replicate j e5 ++ (es ++ List.replicate 8 e79).drop j) h.own (by rw [List.getElem?_append_right (by simp), List.length_replicate, Nat.sub_self, List.getElem?_drop, Nat.add_zero]; exact hp)
section
variable {ds es : List (AccD × SV)} {a : Option Addr} {cap E : Nat} {vR : SV} {t : Nat → Value} {u : World}
set_option maxRecDepth 100000 in
set_option maxHeartbeats 4000000 in
/-- what New answered -/
theorem ops4_end (z9 z10 : Value) (K : Act → World → Prop)
  (hK : Shut (∀ T : Array Value, T.size = 146 → T[0]? = some (.slice a ds.length cap) → T[4]? = some (.int .i64 (ds.length : Int)) → T[5]? = some (.slice (some ⟨E, 0, none⟩) (ds.length + 8) (ds.length + 8)) → T[6]? = some (.slice vR.a vR.n vR.c) → T[9]? = some z9 → T[10]? = some z10 → K ⟨T, []⟩ u)) :
  wpOps TryQ.prog ops4 (fun e a' v' => e = .normal ∧ K a' v') [4, 5, 6, 7, 8] ⟨#[.slice a ds.length cap, t 1, t 2, t 3, .int .i64 (ds.length : Int), .slice (some ⟨E, 0, none⟩) (ds.length + 8) (ds.length + 8), .slice vR.a vR.n vR.c, t 7, t 8, t 9, t 10, t 11, t 12, t 13, t 14, t 15, t 16, t 17, t 18, t 19, t 20, t 21, t 22, t 23, t 24, t 25, t 26, t 27, t 28, t 29, t 30, t 31, t 32, t 33, t 34, t 35, t 36, t 37, t 38, t 39, t 40, t 41, t 42, t 43, t 44, t 45, t 46, t 47, t 48, t 49, t 50, t 51, t 52, t 53, t 54, t 55, t 56, t 57, t 58, t 59, t 60, t 61, t 62, t 63, t 64, t 65, t 66, t 67, t 68, .tuple #[z9, z10], t 70, t 71, t 72, t 73, t 74, t 75, t 76, t 77, t 78, t 79, t 80, t 81, t 82, t 83, t 84, t 85, t 86, t 87, t 88, t 89, t 90, t 91, t 92, t 93, t 94, t 95, t 96, t 97, t 98, t 99, t 100, t 101, t 102, t 103, t 104, t 105, t 106, t 107, t 108, t 109, t 110, t 111, t 112, t 113, t 114, t 115, t 116, t 117, t 118, t 119, t 120, t 121, t 122, t 123, t 124, t 125, t 126, t 127, t 128, t 129, t 130, t 131, t 132, t 133, t 134, t 135, t 136, t 137, t 138, t 139, t 140, t 141, t 142, t 143, t 144, t 145], []⟩ u := by
 obtain ⟨l, hl⟩ : ∃ l, l = ops4.toList.drop 4 := ⟨_, rfl⟩
 have hl' := hl
 simp only [ops4, q4, Tryz.f4, List.drop_succ_cons, List.drop_zero] at hl'
 refine wpOps_rest l 4 5 (by rw [hl']; rfl) (fun j => by rw [hl]; simp) ?_
 rw [hl']
 dsimp only [ops4, q4, Tryz.f4]
 clear hl' hl l
 go_wp2_with fail
 exact hK.out _ rfl rfl rfl rfl rfl rfl rfl
set_option maxRecDepth 100000 in
set_option maxHeartbeats 4000000 in
/-- the document's New: there is a world -/
theorem c14_yes (hI : InR u a ds) (hso : Sound (ds.map (·.1))) (pw : Nat) (z10 : Value) (c : Code) (Q : Exit → Act → World → Prop)
  (hΦ : Shut (∀ (T : Array Value) (W : World) (pb : Nat) (vA : SV) (ys : List (AccD × SV)), T.size = 146 → T[0]? = some (.slice a ds.length cap) → T[4]? = some (.int .i64 (ds.length : Int)) → T[5]? = some (.slice (some ⟨E, 0, none⟩) (ds.length + 8) (ds.length + 8)) → T[6]? = some (.slice vR.a vR.n vR.c) → T[9]? = some (.pointer (some ⟨pw, 0, none⟩)) → T[10]? = some z10 → T[11]? = some (.pointer (some ⟨pb, 0, none⟩)) → Ys u W pb ds ds.length vA ys → c.wp TryQ.prog Q ⟨T, []⟩ W)) :
  (Code.seq c14 (.seq c15 c)).wp TryQ.prog Q ⟨#[.slice a ds.length cap, t 1, t 2, t 3, .int .i64 (ds.length : Int), .slice (some ⟨E, 0, none⟩) (ds.length + 8) (ds.length + 8), .slice vR.a vR.n vR.c, t 7, t 8, .pointer (some ⟨pw, 0, none⟩), z10, t 11, t 12, t 13, t 14, t 15, t 16, t 17, t 18, t 19, t 20, t 21, t 22, t 23, t 24, t 25, t 26, t 27, t 28, t 29, t 30, t 31, t 32, t 33, t 34, t 35, t 36, t 37, t 38, t 39, t 40, t 41, t 42, t 43, t 44, t 45, t 46, t 47, t 48, t 49, t 50, t 51, t 52, t 53, t 54, t 55, t 56, t 57, t 58, t 59, t 60, t 61, t 62, t 63, t 64, t 65, t 66, t 67, t 68, t 69, t 70, t 71, t 72, t 73, t 74, t 75, t 76, t 77, t 78, t 79, t 80, t 81, t 82, t 83, t 84, t 85, t 86, t 87, t 88, t 89, t 90, t 91, t 92, t 93, t 94, t 95, t 96, t 97, t 98, t 99, t 100, t 101, t 102, t 103, t 104, t 105, t 106, t 107, t 108, t 109, t 110, t 111, t 112, t 113, t 114, t 115, t 116, t 117, t 118, t 119, t 120, t 121, t 122, t 123, t 124, t 125, t 126, t 127, t 128, t 129, t 130, t 131, t 132, t 133, t 134, t 135, t 136, t 137, t 138, t 139, t 140, t 141, t 142, t 143, t 144, t 145], []⟩ u := by
 dsimp only [c14, c15, r4, q4, Tryz.f4]
 go_wp2_with fail
 refine (refNew ds a cap u hI hso).mono ?_
 rintro e W ⟨pb, vA, ys, rfl, hY⟩
 go_wp2_with fail
 exact hΦ.out _ _ _ _ _ rfl rfl rfl rfl rfl rfl rfl rfl hY
set_option maxRecDepth 100000 in
set_option maxHeartbeats 4000000 in
/-- the document's New: there is none -/
theorem c14_no (hI : InR u a ds) (hso : ¬ Sound (ds.map (·.1))) (z10 : Value) (c : Code) (Q : Exit → Act → World → Prop)
  (hΦ : Shut (∀ (T : Array Value) (W : World), T.size = 146 → T[0]? = some (.slice a ds.length cap) → T[4]? = some (.int .i64 (ds.length : Int)) → T[5]? = some (.slice (some ⟨E, 0, none⟩) (ds.length + 8) (ds.length + 8)) → T[6]? = some (.slice vR.a vR.n vR.c) → T[9]? = some (.pointer none) → T[10]? = some z10 → T[11]? = some (.pointer none) → Below u.heap.size u W → c.wp TryQ.prog Q ⟨T, []⟩ W)) :
  (Code.seq c14 (.seq c15 c)).wp TryQ.prog Q ⟨#[.slice a ds.length cap, t 1, t 2, t 3, .int .i64 (ds.length : Int), .slice (some ⟨E, 0, none⟩) (ds.length + 8) (ds.length + 8), .slice vR.a vR.n vR.c, t 7, t 8, .pointer none, z10, t 11, t 12, t 13, t 14, t 15, t 16, t 17, t 18, t 19, t 20, t 21, t 22, t 23, t 24, t 25, t 26, t 27, t 28, t 29, t 30, t 31, t 32, t 33, t 34, t 35, t 36, t 37, t 38, t 39, t 40, t 41, t 42, t 43, t 44, t 45, t 46, t 47, t 48, t 49, t 50, t 51, t 52, t 53, t 54, t 55, t 56, t 57, t 58, t 59, t 60, t 61, t 62, t 63, t 64, t 65, t 66, t 67, t 68, t 69, t 70, t 71, t 72, t 73, t 74, t 75, t 76, t 77, t 78, t 79, t 80, t 81, t 82, t 83, t 84, t 85, t 86, t 87, t 88, t 89, t 90, t 91, t 92, t 93, t 94, t 95, t 96, t 97, t 98, t 99, t 100, t 101, t 102, t 103, t 104, t 105, t 106, t 107, t 108, t 109, t 110, t 111, t 112, t 113, t 114, t 115, t 116, t 117, t 118, t 119, t 120, t 121, t 122, t 123, t 124, t 125, t 126, t 127, t 128, t 129, t 130, t 131, t 132, t 133, t 134, t 135, t 136, t 137, t 138, t 139, t 140, t 141, t 142, t 143, t 144, t 145], []⟩ u := by
 dsimp only [c14, c15, r4, q4, Tryz.f4]
 go_wp2_with fail
 refine (refNew0 ds a cap u hI hso).mono ?_
 rintro e W ⟨rfl, hb⟩
 go_wp2_with fail
 exact hΦ.out _ _ rfl rfl rfl rfl rfl rfl rfl rfl hb
set_option maxRecDepth 100000 in
set_option maxHeartbeats 4000000 in
/-- the pair -/
theorem t4_yes (pw pb : Nat) (Ψ : Value → World → Prop) (hΨ : Shut (∀ W pp, Below u.heap.size u W → u.heap.size ≤ pp → W.cell? ⟨pp, 0, none⟩ = some (.pointer (some ⟨pw, 0, none⟩)) → W.cell? ⟨pp, 1, none⟩ = some (.pointer (some ⟨pb, 0, none⟩)) → Ψ (.tuple #[.pointer (some ⟨pp, 0, none⟩), .bool true]) W)) :
  t4.wp TryQ.prog (bodyPost TryQ.prog Tryz.f4 fun e v' => ∃ val, e = .returned val ∧ Ψ val v') ⟨#[t 0, t 1, t 2, t 3, t 4, t 5, t 6, t 7, t 8, .pointer (some ⟨pw, 0, none⟩), .nilIface, .pointer (some ⟨pb, 0, none⟩), t 12, t 13, t 14, t 15, t 16, t 17, t 18, t 19, t 20, t 21, t 22, t 23, t 24, t 25, t 26, t 27, t 28, t 29, t 30, t 31, t 32, t 33, t 34, t 35, t 36, t 37, t 38, t 39, t 40, t 41, t 42, t 43, t 44, t 45, t 46, t 47, t 48, t 49, t 50, t 51, t 52, t 53, t 54, t 55, t 56, t 57, t 58, t 59, t 60, t 61, t 62, t 63, t 64, t 65, t 66, t 67, t 68, t 69, t 70, t 71, t 72, t 73, t 74, t 75, t 76, t 77, t 78, t 79, t 80, t 81, t 82, t 83, t 84, t 85, t 86, t 87, t 88, t 89, t 90, t 91, t 92, t 93, t 94, t 95, t 96, t 97, t 98, t 99, t 100, t 101, t 102, t 103, t 104, t 105, t 106, t 107, t 108, t 109, t 110, t 111, t 112, t 113, t 114, t 115, t 116, t 117, t 118, t 119, t 120, t 121, t 122, t 123, t 124, t 125, t 126, t 127, t 128, t 129, t 130, t 131, t 132, t 133, t 134, t 135, t 136, t 137, t 138, t 139, t 140, t 141, t 142, t 143, t 144, t 145], []⟩ u := by
 obtain ⟨fn, hfn⟩ : ∃ fn, fn = Tryz.f4 := ⟨_, rfl⟩
 have hres : fn.results = #[ResultVar.tmp 2, ResultVar.tmp 3] := by rw [hfn]; exact Tryz.results4
 rw [← hfn]
 clear hfn
 dsimp only [t4, r4, q4, Tryz.f4]
 go_wp2_with fail
 refine (why0 u).mono ?_
 rintro e W ⟨rfl, hb⟩
 go_wp2
 simp [bodyPost, results, hres, go_sem]
 refine hΨ.out _ _ (hb.alloc hb.size _) hb.size ?_ ?_
 ·simp [go_sem]
 ·simp [go_sem]
set_option maxRecDepth 100000 in
set_option maxHeartbeats 4000000 in
/-- no pair -/
theorem t4_no (z11 : Value) (Ψ : Value → World → Prop) (hΨ : Shut (∀ W, Below u.heap.size u W → Ψ (.tuple #[.pointer none, .bool true]) W)) :
  t4.wp TryQ.prog (bodyPost TryQ.prog Tryz.f4 fun e v' => ∃ val, e = .returned val ∧ Ψ val v') ⟨#[t 0, t 1, t 2, t 3, t 4, t 5, t 6, t 7, t 8, .pointer none, .iface 69 (.agg #[.int .i64 1]), z11, t 12, t 13, t 14, t 15, t 16, t 17, t 18, t 19, t 20, t 21, t 22, t 23, t 24, t 25, t 26, t 27, t 28, t 29, t 30, t 31, t 32, t 33, t 34, t 35, t 36, t 37, t 38, t 39, t 40, t 41, t 42, t 43, t 44, t 45, t 46, t 47, t 48, t 49, t 50, t 51, t 52, t 53, t 54, t 55, t 56, t 57, t 58, t 59, t 60, t 61, t 62, t 63, t 64, t 65, t 66, t 67, t 68, t 69, t 70, t 71, t 72, t 73, t 74, t 75, t 76, t 77, t 78, t 79, t 80, t 81, t 82, t 83, t 84, t 85, t 86, t 87, t 88, t 89, t 90, t 91, t 92, t 93, t 94, t 95, t 96, t 97, t 98, t 99, t 100, t 101, t 102, t 103, t 104, t 105, t 106, t 107, t 108, t 109, t 110, t 111, t 112, t 113, t 114, t 115, t 116, t 117, t 118, t 119, t 120, t 121, t 122, t 123, t 124, t 125, t 126, t 127, t 128, t 129, t 130, t 131, t 132, t 133, t 134, t 135, t 136, t 137, t 138, t 139, t 140, t 141, t 142, t 143, t 144, t 145], []⟩ u := by
 obtain ⟨fn, hfn⟩ : ∃ fn, fn = Tryz.f4 := ⟨_, rfl⟩
 have hres : fn.results = #[ResultVar.tmp 2, ResultVar.tmp 3] := by rw [hfn]; exact Tryz.results4
 rw [← hfn]
 clear hfn
 dsimp only [t4, r4, q4, Tryz.f4]
 go_wp2_with fail
 refine (why1 1 u).mono ?_
 rintro e W ⟨rfl, hb⟩
 go_wp2
 simp [bodyPost, results, hres, go_sem]
 exact hΨ.out _ hb
end
end Go.Mark
