/-
  Makes beside leavers (3): its temporaries by name.
-/
import Derived.Test.YtbephahokhnccaaGreatXH8toH9
import Derived.Conc.LeavingOf
set_option linter.unusedSectionVars false
namespace Go.Mark
open Go.Conc Go.Walk Go.Phase Go.RowKit Go.Conc.Lib Go.ConcR.Gen Go.ConcN.Gen Go.Lift Go.Proofs
open Go.ConcN (WgLive Has RW DWs AtR0 PayAt)
open Go.ConcR (KK WgAt stA smA rd wr mk Payload)
def tA0 (a : Option Addr) (n cap : Nat) : Array Value := #[.slice a n cap, undef, undef, undef, undef, undef, undef, undef, undef, undef, undef, undef, undef, undef, undef, undef, undef, undef, undef, undef, undef, undef, undef, undef, undef, undef, undef, undef, undef, undef, undef, undef, undef, undef, undef, undef, undef, undef, undef, undef, undef, undef, undef, undef, undef, undef, undef, undef, undef, undef, undef, undef, undef, undef, undef, undef, undef, undef, undef, undef, undef, undef, undef, undef, undef, undef, undef, undef]
def tA1 (a : Option Addr) (n cap : Nat) : Array Value := #[.slice a n cap, undef, .bool false, undef, undef, undef, undef, undef, undef, undef, undef, undef, undef, undef, .agg #[.int .i64 1, .int .u64 0, .int .u64 0, .int .u64 0, .int .u64 0, .int .i64 0, .string ⟨#[]⟩, .slice none 0 0], undef, undef, undef, undef, undef, undef, undef, undef, undef, undef, undef, undef, undef, undef, undef, undef, undef, undef, undef, undef, undef, undef, undef, undef, undef, undef, undef, undef, undef, undef, undef, undef, undef, undef, undef, undef, undef, undef, undef, undef, undef, undef, undef, undef, undef, undef, undef, undef, undef, undef, undef, undef, undef]
def tA1b (a : Option Addr) (n cap E1 : Nat) : Array Value := #[.slice a n cap, undef, .bool false, undef, undef, undef, undef, undef, undef, undef, undef, undef, undef, undef, .agg #[.int .i64 1, .int .u64 0, .int .u64 0, .int .u64 0, .int .u64 0, .int .i64 0, .string ⟨#[]⟩, .slice none 0 0], .slice (some ⟨E1, 0, none⟩) 1 1, undef, undef, undef, undef, undef, undef, undef, undef, undef, undef, undef, undef, undef, undef, undef, undef, undef, undef, undef, undef, undef, undef, undef, undef, undef, undef, undef, undef, undef, undef, undef, undef, undef, undef, undef, undef, undef, undef, undef, undef, undef, undef, undef, undef, undef, undef, undef, undef, undef, undef, undef, undef]
def tA1c (a : Option Addr) (n cap E1 pp : Nat) : Array Value := #[.slice a n cap, undef, .bool false, undef, undef, undef, undef, undef, undef, undef, undef, undef, undef, undef, .agg #[.int .i64 1, .int .u64 0, .int .u64 0, .int .u64 0, .int .u64 0, .int .i64 0, .string ⟨#[]⟩, .slice none 0 0], .slice (some ⟨E1, 0, none⟩) 1 1, .tuple #[.pointer (some ⟨pp, 0, none⟩), .bool true], undef, undef, undef, undef, undef, undef, undef, undef, undef, undef, undef, undef, undef, undef, undef, undef, undef, undef, undef, undef, undef, undef, undef, undef, undef, undef, undef, undef, undef, undef, undef, undef, undef, undef, undef, undef, undef, undef, undef, undef, undef, undef, undef, undef, undef, undef, undef, undef, undef, undef, undef]
def tA2 (a : Option Addr) (n cap E1 pp : Nat) : Array Value := #[.slice a n cap, undef, .bool false, .pointer (some ⟨pp, 0, none⟩), .bool true, undef, undef, undef, undef, undef, undef, undef, undef, .tuple #[.pointer (some ⟨pp, 0, none⟩), .bool true], .agg #[.int .i64 1, .int .u64 0, .int .u64 0, .int .u64 0, .int .u64 0, .int .i64 0, .string ⟨#[]⟩, .slice none 0 0], .slice (some ⟨E1, 0, none⟩) 1 1, .tuple #[.pointer (some ⟨pp, 0, none⟩), .bool true], .pointer (some ⟨pp, 0, none⟩), .bool true, undef, .agg #[.int .i64 1, .int .u64 0, .int .u64 0, .int .u64 0, .int .u64 0, .int .i64 0, .string ⟨#[]⟩, .slice none 0 0], .agg #[.int .i64 1, .int .u64 0, .int .u64 0, .int .u64 0, .int .u64 0, .int .i64 0, .string ⟨#[]⟩, .slice none 0 0], undef, undef, undef, undef, undef, undef, undef, undef, undef, undef, undef, undef, undef, undef, undef, undef, undef, undef, undef, undef, undef, undef, undef, undef, undef, undef, undef, undef, undef, undef, undef, undef, undef, undef, undef, undef, undef, undef, undef, undef, undef, undef, undef, undef, undef, undef]
def tA2b (a : Option Addr) (n cap E1 pp E2 : Nat) : Array Value := #[.slice a n cap, undef, .bool false, .pointer (some ⟨pp, 0, none⟩), .bool true, undef, undef, undef, undef, undef, undef, undef, undef, .tuple #[.pointer (some ⟨pp, 0, none⟩), .bool true], .agg #[.int .i64 1, .int .u64 0, .int .u64 0, .int .u64 0, .int .u64 0, .int .i64 0, .string ⟨#[]⟩, .slice none 0 0], .slice (some ⟨E1, 0, none⟩) 1 1, .tuple #[.pointer (some ⟨pp, 0, none⟩), .bool true], .pointer (some ⟨pp, 0, none⟩), .bool true, undef, .agg #[.int .i64 1, .int .u64 0, .int .u64 0, .int .u64 0, .int .u64 0, .int .i64 0, .string ⟨#[]⟩, .slice none 0 0], .agg #[.int .i64 1, .int .u64 0, .int .u64 0, .int .u64 0, .int .u64 0, .int .i64 0, .string ⟨#[]⟩, .slice none 0 0], .slice (some ⟨E2, 0, none⟩) 2 2, undef, undef, undef, undef, undef, undef, undef, undef, undef, undef, undef, undef, undef, undef, undef, undef, undef, undef, undef, undef, undef, undef, undef, undef, undef, undef, undef, undef, undef, undef, undef, undef, undef, undef, undef, undef, undef, undef, undef, undef, undef, undef, undef, undef, undef]
def tA2c (a : Option Addr) (n cap E1 pp E2 : Nat) : Array Value := #[.slice a n cap, undef, .bool false, .pointer (some ⟨pp, 0, none⟩), .bool true, undef, undef, undef, undef, undef, undef, undef, undef, .tuple #[.pointer (some ⟨pp, 0, none⟩), .bool true], .agg #[.int .i64 1, .int .u64 0, .int .u64 0, .int .u64 0, .int .u64 0, .int .i64 0, .string ⟨#[]⟩, .slice none 0 0], .slice (some ⟨E1, 0, none⟩) 1 1, .tuple #[.pointer (some ⟨pp, 0, none⟩), .bool true], .pointer (some ⟨pp, 0, none⟩), .bool true, undef, .agg #[.int .i64 1, .int .u64 0, .int .u64 0, .int .u64 0, .int .u64 0, .int .i64 0, .string ⟨#[]⟩, .slice none 0 0], .agg #[.int .i64 1, .int .u64 0, .int .u64 0, .int .u64 0, .int .u64 0, .int .i64 0, .string ⟨#[]⟩, .slice none 0 0], .slice (some ⟨E2, 0, none⟩) 2 2, .tuple #[.pointer none, .bool true], undef, undef, undef, undef, undef, undef, undef, undef, undef, undef, undef, undef, undef, undef, undef, undef, undef, undef, undef, undef, undef, undef, undef, undef, undef, undef, undef, undef, undef, undef, undef, undef, undef, undef, undef, undef, undef, undef, undef, undef, undef, undef, undef, undef]
def tA3 (a : Option Addr) (n cap E1 pp E2 : Nat) : Array Value := #[.slice a n cap, undef, .bool false, .pointer (some ⟨pp, 0, none⟩), .bool true, .pointer none, .bool true, undef, undef, undef, undef, undef, undef, .tuple #[.pointer (some ⟨pp, 0, none⟩), .bool true], .agg #[.int .i64 1, .int .u64 0, .int .u64 0, .int .u64 0, .int .u64 0, .int .i64 0, .string ⟨#[]⟩, .slice none 0 0], .slice (some ⟨E1, 0, none⟩) 1 1, .tuple #[.pointer (some ⟨pp, 0, none⟩), .bool true], .pointer (some ⟨pp, 0, none⟩), .bool true, .tuple #[.pointer none, .bool true], .agg #[.int .i64 1, .int .u64 0, .int .u64 0, .int .u64 0, .int .u64 0, .int .i64 0, .string ⟨#[]⟩, .slice none 0 0], .agg #[.int .i64 1, .int .u64 0, .int .u64 0, .int .u64 0, .int .u64 0, .int .i64 0, .string ⟨#[]⟩, .slice none 0 0], .slice (some ⟨E2, 0, none⟩) 2 2, .tuple #[.pointer none, .bool true], .pointer none, .bool true, undef, .slice a n cap, undef, undef, undef, undef, undef, undef, undef, undef, undef, undef, undef, undef, undef, undef, undef, undef, undef, undef, undef, undef, undef, undef, undef, undef, undef, undef, undef, undef, undef, undef, undef, undef, undef, undef, undef, undef, undef, undef, undef, undef]
def tA3y (a : Option Addr) (n cap E1 pp E2 q3 : Nat) : Array Value := #[.slice a n cap, undef, .bool false, .pointer (some ⟨pp, 0, none⟩), .bool true, .pointer none, .bool true, undef, undef, undef, undef, undef, undef, .tuple #[.pointer (some ⟨pp, 0, none⟩), .bool true], .agg #[.int .i64 1, .int .u64 0, .int .u64 0, .int .u64 0, .int .u64 0, .int .i64 0, .string ⟨#[]⟩, .slice none 0 0], .slice (some ⟨E1, 0, none⟩) 1 1, .tuple #[.pointer (some ⟨pp, 0, none⟩), .bool true], .pointer (some ⟨pp, 0, none⟩), .bool true, .tuple #[.pointer none, .bool true], .agg #[.int .i64 1, .int .u64 0, .int .u64 0, .int .u64 0, .int .u64 0, .int .i64 0, .string ⟨#[]⟩, .slice none 0 0], .agg #[.int .i64 1, .int .u64 0, .int .u64 0, .int .u64 0, .int .u64 0, .int .i64 0, .string ⟨#[]⟩, .slice none 0 0], .slice (some ⟨E2, 0, none⟩) 2 2, .tuple #[.pointer none, .bool true], .pointer none, .bool true, undef, .slice a n cap, .tuple #[.pointer (some ⟨q3, 0, none⟩), .bool true], undef, undef, undef, undef, undef, undef, undef, undef, undef, undef, undef, undef, undef, undef, undef, undef, undef, undef, undef, undef, undef, undef, undef, undef, undef, undef, undef, undef, undef, undef, undef, undef, undef, undef, undef, undef, undef, undef, undef]
def tA3n (a : Option Addr) (n cap E1 pp E2 : Nat) : Array Value := #[.slice a n cap, undef, .bool false, .pointer (some ⟨pp, 0, none⟩), .bool true, .pointer none, .bool true, undef, undef, undef, undef, undef, undef, .tuple #[.pointer (some ⟨pp, 0, none⟩), .bool true], .agg #[.int .i64 1, .int .u64 0, .int .u64 0, .int .u64 0, .int .u64 0, .int .i64 0, .string ⟨#[]⟩, .slice none 0 0], .slice (some ⟨E1, 0, none⟩) 1 1, .tuple #[.pointer (some ⟨pp, 0, none⟩), .bool true], .pointer (some ⟨pp, 0, none⟩), .bool true, .tuple #[.pointer none, .bool true], .agg #[.int .i64 1, .int .u64 0, .int .u64 0, .int .u64 0, .int .u64 0, .int .i64 0, .string ⟨#[]⟩, .slice none 0 0], .agg #[.int .i64 1, .int .u64 0, .int .u64 0, .int .u64 0, .int .u64 0, .int .i64 0, .string ⟨#[]⟩, .slice none 0 0], .slice (some ⟨E2, 0, none⟩) 2 2, .tuple #[.pointer none, .bool true], .pointer none, .bool true, undef, .slice a n cap, .tuple #[.pointer none, .bool true], undef, undef, undef, undef, undef, undef, undef, undef, undef, undef, undef, undef, undef, undef, undef, undef, undef, undef, undef, undef, undef, undef, undef, undef, undef, undef, undef, undef, undef, undef, undef, undef, undef, undef, undef, undef, undef, undef, undef]
section
variable {h0 : Array Obj} {a : Option Addr} {n cap E1 E2 pp : Nat} {cs : List Frame}
set_option maxRecDepth 100000 in
theorem s31' : GoW Tryz.prog true AtRel DSil (fun g w => g = G ((base 3).at ⟨tA1 a n cap, []⟩ (.inRegion ops31 [1, 2, 3, 4, 5, 6, 7] :: [.code k1])) cs ∧ w.heap = h0) (fun w => w.heap = h0) 30 (G ((base 3).at ⟨tA0 a n cap, []⟩ [.code (Tryz.f3.body.getD .skip)]) cs) := by
  have h := @s31 h0 a n cap cs
  unfold tA0 tA1
  dsimp only at h ⊢
  exact h
set_option maxRecDepth 100000 in
theorem s32' : GoW Tryz.prog true AtRel DSil (fun g w => g = G ((base 4).at ⟨#[.slice (some ⟨E1, 0, none⟩) 1 1] ++ Array.replicate 145 undef, []⟩ [.code (Tryz.f4.body.getD .skip)]) ((base 3).at ⟨tA1b a n cap E1, []⟩ (.inRegion ops31 [2, 3, 4, 5, 6, 7] :: [.code k1]) :: cs) ∧ w.heap = h0) (fun w => w.heap = h0) 30 (G ((base 3).at ⟨tA1b a n cap E1, []⟩ (.inRegion ops31 [2, 3, 4, 5, 6, 7] :: [.code k1])) cs) := by
  have h := @s32 h0 a n cap E1 cs
  unfold tA1b
  dsimp only at h ⊢
  exact h
set_option maxRecDepth 100000 in
theorem s33' : GoW Tryz.prog true AtRel DSil (fun g w => g = G ((base 3).at ⟨tA2 a n cap E1 pp, []⟩ (.inRegion ops32 [2, 3, 4, 5, 6, 7, 8] :: [.code k2])) cs ∧ w.heap = h0) (fun w => w.heap = h0) 30 (G ((base 3).at ⟨tA1c a n cap E1 pp, []⟩ (.inRegion ops31 [3, 4, 5, 6, 7] :: [.code k1])) cs) := by
  have h := @s33 h0 a n cap E1 pp cs
  unfold tA2 tA1c
  dsimp only at h ⊢
  exact h
set_option maxRecDepth 100000 in
theorem s34' : GoW Tryz.prog true AtRel DSil (fun g w => g = G ((base 4).at ⟨#[.slice (some ⟨E2, 0, none⟩) 2 2] ++ Array.replicate 145 undef, []⟩ [.code (Tryz.f4.body.getD .skip)]) ((base 3).at ⟨tA2b a n cap E1 pp E2, []⟩ (.inRegion ops32 [3, 4, 5, 6, 7, 8] :: [.code k2]) :: cs) ∧ w.heap = h0) (fun w => w.heap = h0) 30 (G ((base 3).at ⟨tA2b a n cap E1 pp E2, []⟩ (.inRegion ops32 [3, 4, 5, 6, 7, 8] :: [.code k2])) cs) := by
  have h := @s34 h0 a n cap E1 E2 pp cs
  unfold tA2b
  dsimp only at h ⊢
  exact h
set_option maxRecDepth 100000 in
theorem s35' : GoW Tryz.prog true AtRel DSil (fun g w => g = G ((base 3).at ⟨tA3 a n cap E1 pp E2, []⟩ (.inRegion ops33 [1, 2, 3, 4, 5, 6] :: [.code k3])) cs ∧ w.heap = h0) (fun w => w.heap = h0) 30 (G ((base 3).at ⟨tA2c a n cap E1 pp E2, []⟩ (.inRegion ops32 [4, 5, 6, 7, 8] :: [.code k2])) cs) := by
  have h := @s35 h0 a n cap E1 E2 pp cs
  unfold tA3 tA2c
  dsimp only at h ⊢
  exact h
set_option maxRecDepth 100000 in
theorem s35c' : GoW Tryz.prog true AtRel DSil (fun g w => g = G ((base 4).at ⟨#[.slice a n cap] ++ Array.replicate 145 undef, []⟩ [.code (Tryz.f4.body.getD .skip)]) ((base 3).at ⟨tA3 a n cap E1 pp E2, []⟩ (.inRegion ops33 [1, 2, 3, 4, 5, 6] :: [.code k3]) :: cs) ∧ w.heap = h0) (fun w => w.heap = h0) 30 (G ((base 3).at ⟨tA3 a n cap E1 pp E2, []⟩ (.inRegion ops33 [1, 2, 3, 4, 5, 6] :: [.code k3])) cs) := by
  have h := @s35c h0 a n cap E1 E2 pp cs
  unfold tA3
  dsimp only at h ⊢
  exact h
set_option maxRecDepth 100000 in
theorem s36y' (q3 : Nat) : GoW Tryz.prog true AtRel DSil (fun g w => (∃ T : Array Value, g = G ((base 3).at ⟨T, []⟩ [.code k6]) cs ∧ T.size = 68 ∧ T[7]? = some (.pointer (some ⟨q3, 0, none⟩))) ∧ w.heap = h0) (fun w => w.heap = h0) 80 (G ((base 3).at ⟨tA3y a n cap E1 pp E2 q3, []⟩ (.inRegion ops33 [2, 3, 4, 5, 6] :: [.code k3])) cs) := by
  have h := @s36y h0 a n cap E1 E2 pp cs q3
  unfold tA3y
  dsimp only at h ⊢
  exact h
set_option maxRecDepth 100000 in
theorem s36n' : GoW Tryz.prog true AtRel DSil (fun g w => (∃ (T : Array Value) (todo : List Item), g = G { (base 3).at ⟨T, []⟩ todo with mode := .returning } cs ∧ T[2]? = some (.bool true)) ∧ w.heap = h0) (fun w => w.heap = h0) 80 (G ((base 3).at ⟨tA3n a n cap E1 pp E2, []⟩ (.inRegion ops33 [2, 3, 4, 5, 6] :: [.code k3])) cs) := by
  have h := @s36n h0 a n cap E1 E2 pp cs
  unfold tA3n
  dsimp only at h ⊢
  exact h
set_option maxRecDepth 100000 in
theorem act1 : after (base 3) ⟨tA1b a n cap E1, []⟩ ops31 2 [3, 4, 5, 6, 7] [.code k1] (.tuple #[.pointer (some ⟨pp, 0, none⟩), .bool true]) = (base 3).at ⟨tA1c a n cap E1 pp, []⟩ (.inRegion ops31 [3, 4, 5, 6, 7] :: [.code k1]) := by
  unfold tA1b tA1c
  rfl
set_option maxRecDepth 100000 in
theorem act2 : after (base 3) ⟨tA2b a n cap E1 pp E2, []⟩ ops32 3 [4, 5, 6, 7, 8] [.code k2] (.tuple #[.pointer none, .bool true]) = (base 3).at ⟨tA2c a n cap E1 pp E2, []⟩ (.inRegion ops32 [4, 5, 6, 7, 8] :: [.code k2]) := by
  unfold tA2b tA2c
  rfl
set_option maxRecDepth 100000 in
theorem act3y (q3 : Nat) : after (base 3) ⟨tA3 a n cap E1 pp E2, []⟩ ops33 1 [2, 3, 4, 5, 6] [.code k3] (.tuple #[.pointer (some ⟨q3, 0, none⟩), .bool true]) = (base 3).at ⟨tA3y a n cap E1 pp E2 q3, []⟩ (.inRegion ops33 [2, 3, 4, 5, 6] :: [.code k3]) := by
  unfold tA3 tA3y
  rfl
set_option maxRecDepth 100000 in
theorem act3n : after (base 3) ⟨tA3 a n cap E1 pp E2, []⟩ ops33 1 [2, 3, 4, 5, 6] [.code k3] (.tuple #[.pointer none, .bool true]) = (base 3).at ⟨tA3n a n cap E1 pp E2, []⟩ (.inRegion ops33 [2, 3, 4, 5, 6] :: [.code k3]) := by
  unfold tA3 tA3n
  rfl
set_option maxRecDepth 100000 in
theorem put1 : (⟨tA1 a n cap, []⟩ : Act).put o311.dst (.slice (some ⟨E1, 0, none⟩) 1 1) = ⟨tA1b a n cap E1, []⟩ := by
  unfold tA1 tA1b
  rfl
set_option maxRecDepth 100000 in
theorem put2 : (⟨tA2 a n cap E1 pp, []⟩ : Act).put o322.dst (.slice (some ⟨E2, 0, none⟩) 2 2) = ⟨tA2b a n cap E1 pp E2, []⟩ := by
  unfold tA2 tA2b
  rfl
set_option maxRecDepth 100000 in
theorem want1 : Region.wanted o311 (yielded ops31 (tA1 a n cap)) = true := by
  unfold tA1
  kernel_rfl
set_option maxRecDepth 100000 in
theorem want2 : Region.wanted o322 (yielded ops32 (tA2 a n cap E1 pp)) = true := by
  unfold tA2
  kernel_rfl
set_option maxRecDepth 100000 in
theorem new31' (u : World) : (execOp (Act.eval ⟨tA1 a n cap, []⟩) o311).run TryQ.prog u = .ok (.value (.slice (some ⟨u.heap.size, 0, none⟩) 1 1)) (u.alloc (.cells #[.int .i64 1, .int .u64 0, .int .u64 0, .int .u64 0, .int .u64 0, .int .i64 0, .string ⟨#[]⟩, .slice none 0 0] 31)) := by
  have h := @new31 a n cap u
  unfold tA1
  dsimp only at h ⊢
  exact h
set_option maxRecDepth 100000 in
theorem new32' (u : World) : (execOp (Act.eval ⟨tA2 a n cap E1 pp, []⟩) o322).run TryQ.prog u = .ok (.value (.slice (some ⟨u.heap.size, 0, none⟩) 2 2)) (u.alloc (.cells #[.int .i64 1, .int .u64 0, .int .u64 0, .int .u64 0, .int .u64 0, .int .i64 0, .string ⟨#[]⟩, .slice none 0 0, .int .i64 1, .int .u64 0, .int .u64 0, .int .u64 0, .int .u64 0, .int .i64 0, .string ⟨#[]⟩, .slice none 0 0] 31)) := by
  have h := @new32 a n cap E1 pp u
  unfold tA2
  dsimp only at h ⊢
  exact h
end
end Go.Mark
/-
  Makes beside leavers (3): from its entry to its return.
-/
set_option linter.unusedSectionVars false
namespace Go.Mark
open Go.Conc Go.Walk Go.Phase Go.RowKit Go.Conc.Lib Go.ConcR.Gen Go.ConcN.Gen Go.Lift Go.Proofs
open Go.ConcN (WgLive Has RW DWs AtR0 PayAt)
open Go.ConcR (KK WgAt stA smA rd wr mk Payload)
theorem kept_sub (ss : List (Nat × Nat)) : ((kept ss).map (·.1)).Sublist (ss.map (·.1)) := (List.filter_sublist).map _
set_option maxRecDepth 100000 in
set_option maxHeartbeats 4000000 in
theorem makes_runs {B : Nat} {Shun : Loc → Prop} {D : Nat → Prop} {ds : List (AccD × SV)} {a : Option Addr} {cap o : Nat} {w v : World} {m : Machine} {t : Trace}
    (hB : B ≤ w.heap.size) (hrel : Rel (veil D) w v) (hdk : Dk B D w) (hhid : Hides (veil D) Shun) (hI : InR v a ds) (ho : o + 200 < 2147483647)
    (hst : Stand Tryz.prog Shun w.heap.size (o + 1) (G ((base 3).at ⟨tA0 a ds.length cap, []⟩ [.code (Tryz.f3.body.getD .skip)]) []) w m t) :
    Runs Tryz.prog m t fun m' t' => ∃ (w' : World) (Shun' : Loc → Prop) (N : Nat) (T : Array Value) (todo : List Item), (∀ b, b < B → w'.heap[b]? = w.heap[b]?) ∧ (w'.os = w.os ∧ w'.output = w.output) ∧ w.heap.size ≤ w'.heap.size ∧ T[2]? = some (.bool true) ∧
      Stand Tryz.prog Shun' w'.heap.size N (G { (base 3).at ⟨T, []⟩ todo with mode := .returning } []) w' m' t' := by
  -- the first world
  refine (runs_sil (s31' (h0 := w.heap)) rfl hst).then fun m1 t1 h1 => ?_
  obtain ⟨g1, w1, ⟨rfl, hh1⟩, ho1, hst1⟩ := h1
  have hon1 := onto_sil (w' := w1) hdk hrel hhid hh1 ho1
  have hsz1 : w1.heap.size = w.heap.size := by rw [hh1]
  rw [← hsz1] at hst1
  have hwill1 := lift_op1 (D := D) (ops := ops31) (i := 1) (rest := [2, 3, 4, 5, 6, 7]) (o := o311) (b := base 3) (k := [.code k1]) (cw := []) (w := w1) (a := ⟨tA1 a ds.length cap, []⟩)
    (Φ := fun a' v' => ∃ u1, Rel (veil D) w1 u1 ∧ a' = ⟨tA1b a ds.length cap u1.heap.size, []⟩ ∧ v' = u1.alloc (.cells #[.int .i64 1, .int .u64 0, .int .u64 0, .int .u64 0, .int .u64 0, .int .i64 0, .string ⟨#[]⟩, .slice none 0 0] 31)) rfl rfl oko31 (fun x hx => by rw [List.mem_singleton.1 hx]; exact okk1) o311_at want1 ⟨_, hon1.rel⟩ (fun u hu => ⟨_, _, new31' u, u, hu, put1, rfl⟩)
  refine (runs_will hhid hwill1 hst1).then fun m2 t2 h2 => ?_
  clear hst hst1 hwill1
  obtain ⟨g2, w2, ⟨a2, v2, rfl, hr2, hs2, _, u1, hu1, rfl, rfl⟩, hst2⟩ := h2
  have hon2 := hon1.trans (onto_lone hon1.dk hon1.rel hhid (Nat.le_trans hB hon1.up) hu1 hr2 hs2 ((Below.refl _ _).alloc (Nat.le_refl _) _))
  refine (runs_sil (s32' (h0 := w2.heap)) rfl hst2).then fun m3 t3 h3 => ?_
  clear hst2
  obtain ⟨g3, w3, ⟨rfl, hh3⟩, ho3, hst3⟩ := h3
  have hon3 := hon2.trans (onto_sil (w' := w3) hon2.dk hon2.rel hhid hh3 ho3)
  have hsz3 : w3.heap.size = w2.heap.size := by rw [hh3]
  rw [← hsz3] at hst3
  have hi1 := inr1 u1
  refine (made_runs (ds := [e1]) (cap := 1) (o := o) (rest₀ := [3, 4, 5, 6, 7]) (Nat.le_trans hB hon3.up) hon3.rel hon3.dk hhid hi1 (by omega) rfl rfl oko31 (fun x hx => by rw [List.mem_singleton.1 hx]; exact okk1) hst3).then fun m4 t4 h4 => ?_
  clear hst3
  obtain ⟨w4, v4, Shun4, D4, o4, val4, hon4', hres4, ho4, hst4⟩ := h4
  have hon4 := hon3.trans hon4'
  rcases hres4 with ⟨_, p1, _, _, _, _, _, _, hv4, _⟩ | ⟨hno, _⟩
  rotate_left
  · exact absurd sound1 hno
  subst hv4
  have hact1 : after (base 3) ⟨tA1b a ds.length cap u1.heap.size, []⟩ ops31 2 [3, 4, 5, 6, 7] [.code k1] (.tuple #[.pointer (some ⟨p1, 0, none⟩), .bool true]) = (base 3).at ⟨tA1c a ds.length cap u1.heap.size p1, []⟩ (.inRegion ops31 [3, 4, 5, 6, 7] :: [.code k1]) := act1
  rw [hact1] at hst4
  clear hact1
  -- the second
  refine (runs_sil (s33' (h0 := w4.heap)) rfl hst4).then fun m5 t5 h5 => ?_
  clear hst4
  obtain ⟨g5, w5, ⟨rfl, hh5⟩, ho5, hst5⟩ := h5
  have hon5 := hon4.trans (onto_sil (w' := w5) hon4.dk hon4.rel hon4.hid hh5 ho5)
  have hsz5 : w5.heap.size = w4.heap.size := by rw [hh5]
  rw [← hsz5] at hst5
  have hwill2 := lift_op1 (D := D4) (ops := ops32) (i := 2) (rest := [3, 4, 5, 6, 7, 8]) (o := o322) (b := base 3) (k := [.code k2]) (cw := []) (w := w5) (a := ⟨tA2 a ds.length cap u1.heap.size p1, []⟩)
    (Φ := fun a' v' => ∃ u2, Rel (veil D4) w5 u2 ∧ a' = ⟨tA2b a ds.length cap u1.heap.size p1 u2.heap.size, []⟩ ∧ v' = u2.alloc (.cells #[.int .i64 1, .int .u64 0, .int .u64 0, .int .u64 0, .int .u64 0, .int .i64 0, .string ⟨#[]⟩, .slice none 0 0, .int .i64 1, .int .u64 0, .int .u64 0, .int .u64 0, .int .u64 0, .int .i64 0, .string ⟨#[]⟩, .slice none 0 0] 31)) rfl rfl oko32 (fun x hx => by rw [List.mem_singleton.1 hx]; exact okk2) o322_at want2 ⟨_, hon5.rel⟩ (fun u hu => ⟨_, _, new32' u, u, hu, put2, rfl⟩)
  refine (runs_will hon5.hid hwill2 hst5).then fun m6 t6 h6 => ?_
  clear hst5 hwill2
  obtain ⟨g6, w6, ⟨a6, v6, rfl, hr6, hs6, _, u2, hu2, rfl, rfl⟩, hst6⟩ := h6
  have hon6 := hon5.trans (onto_lone hon5.dk hon5.rel hon5.hid (Nat.le_trans hB hon5.up) hu2 hr6 hs6 ((Below.refl _ _).alloc (Nat.le_refl _) _))
  refine (runs_sil (s34' (h0 := w6.heap)) rfl hst6).then fun m7 t7 h7 => ?_
  clear hst6
  obtain ⟨g7, w7, ⟨rfl, hh7⟩, ho7, hst7⟩ := h7
  have hon7 := hon6.trans (onto_sil (w' := w7) hon6.dk hon6.rel hon6.hid hh7 ho7)
  have hsz7 : w7.heap.size = w6.heap.size := by rw [hh7]
  rw [← hsz7] at hst7
  have hi2 := inr2 u2
  refine (made_runs (ds := [e1, e1]) (cap := 2) (o := o4) (rest₀ := [4, 5, 6, 7, 8]) (Nat.le_trans hB hon7.up) hon7.rel hon7.dk hon7.hid hi2 (by omega) rfl rfl oko32 (fun x hx => by rw [List.mem_singleton.1 hx]; exact okk2) hst7).then fun m8 t8 h8 => ?_
  clear hst7
  obtain ⟨w8, v8, Shun8, D8, o8, val8, hon8', hres8, ho8, hst8⟩ := h8
  have hon8 := hon7.trans hon8'
  rcases hres8 with ⟨hyes, _⟩ | ⟨_, hv8⟩
  · exact absurd hyes sound2
  subst hv8
  have hact2 : after (base 3) ⟨tA2b a ds.length cap u1.heap.size p1 u2.heap.size, []⟩ ops32 3 [4, 5, 6, 7, 8] [.code k2] (.tuple #[.pointer none, .bool true]) = (base 3).at ⟨tA2c a ds.length cap u1.heap.size p1 u2.heap.size, []⟩ (.inRegion ops32 [4, 5, 6, 7, 8] :: [.code k2]) := act2
  rw [hact2] at hst8
  clear hact2
  -- the third
  refine (runs_sil (s35' (h0 := w8.heap)) rfl hst8).then fun m9 t9 h9 => ?_
  clear hst8
  obtain ⟨g9, w9, ⟨rfl, hh9⟩, ho9, hst9⟩ := h9
  have hon9 := hon8.trans (onto_sil (w' := w9) hon8.dk hon8.rel hon8.hid hh9 ho9)
  have hsz9 : w9.heap.size = w8.heap.size := by rw [hh9]
  rw [← hsz9] at hst9
  refine (runs_sil (s35c' (h0 := w9.heap)) rfl hst9).then fun m10 t10 h10 => ?_
  clear hst9
  obtain ⟨g10, w10, ⟨rfl, hh10⟩, ho10, hst10⟩ := h10
  have hon10 := hon9.trans (onto_sil (w' := w10) hon9.dk hon9.rel hon9.hid hh10 ho10)
  have hsz10 : w10.heap.size = w9.heap.size := by rw [hh10]
  rw [← hsz10] at hst10
  refine (made_runs (ds := ds) (cap := cap) (o := o8) (rest₀ := [2, 3, 4, 5, 6]) (Nat.le_trans hB hon10.up) hon10.rel hon10.dk hon10.hid (hI.at fun p x hp => hon10.tw.cell hp) (by omega) rfl rfl oko33 (fun x hx => by rw [List.mem_singleton.1 hx]; exact okk3) hst10).then fun m11 t11 h11 => ?_
  clear hst10
  obtain ⟨w11, v11, Shun11, D11, o11, val11, hon11', hres11, ho11, hst11⟩ := h11
  have hon11 := hon10.trans hon11'
  rcases hres11 with ⟨hso, q3, pw, pl, LL, pb, vA, ys, hv11, hc0, hc1, hcw, hled, hLm, hcb, hin, hys⟩ | ⟨_, hv11⟩
  · subst hv11
    have hact3 : after (base 3) ⟨tA3 a ds.length cap u1.heap.size p1 u2.heap.size, []⟩ ops33 1 [2, 3, 4, 5, 6] [.code k3] (.tuple #[.pointer (some ⟨q3, 0, none⟩), .bool true]) = (base 3).at ⟨tA3y a ds.length cap u1.heap.size p1 u2.heap.size q3, []⟩ (.inRegion ops33 [2, 3, 4, 5, 6] :: [.code k3]) := act3y q3
    rw [hact3] at hst11
    clear hact3
    refine (runs_sil (s36y' (h0 := w11.heap) q3) rfl hst11).then fun m12 t12 h12 => ?_
    clear hst11
    obtain ⟨g12, w12, ⟨⟨T, rfl, hTs, hT7⟩, hh12⟩, ho12, hst12⟩ := h12
    have hon12 := hon11.trans (onto_sil (w' := w12) hon11.dk hon11.rel hon11.hid hh12 ho12)
    have hsz12 : w12.heap.size = w11.heap.size := by rw [hh12]
    rw [← hsz12, k6_eq] at hst12
    obtain ⟨tt, hT, ht⟩ := lit68 T hTs
    rw [ht 7 _ hT7] at hT
    have hyl : ys.length = ds.length := by
      have := congrArg List.length hys
      simpa using this
    have hall : ∀ p ∈ ys, ∃ q ∈ ds, p.1 = kp q.1 := fun p hp => by
      have : p.1 ∈ ys.map (·.1) := List.mem_map_of_mem hp
      rw [hys] at this
      obtain ⟨q, hq, e⟩ := List.mem_map.1 this
      exact ⟨q, hq, e.symm⟩
    have hok : ∀ q ∈ ds, AccOk q.1 := fun q hq => hso.2.1 _ (List.mem_map_of_mem hq)
    have hids : ys.map (·.1.id) = ds.map (·.1.id) := by
      have := congrArg (List.map (·.id)) hys
      simpa [List.map_map, Function.comp_def, kp] using this
    have hid : (ys.map (·.1.id)).Nodup := by
      rw [hids]
      have := hso.2.2.1
      simpa [List.map_map, Function.comp_def] using this
    have hwill3 := lift_chain (D := D11) (l := p3) (c := .ret) (b := base 3) (k := []) (cw := []) (w := w12) (a := ⟨T, []⟩)
      (Φ := fun a' v' => ∃ u T', Rel (veil D11) w12 u ∧ a' = ⟨T', []⟩ ∧ T'[2]? = some (.bool true) ∧ Below u.heap.size u v') rfl rfl okp3 rfl (fun x hx => by cases hx) ⟨_, hon12.rel⟩ (fun u hu => by
        have htu := tw_rel hon12.dk hon12.rel hu
        have hx := fin3 (t := tt) u q3 pw pl pb LL vA ys (htu.cell hc0) (htu.cell hc1) (htu.cell hcw) (hled.tw htu) (htu.cell hcb) (hin.at fun p x hp => htu.cell hp) (hLm.trans hys.symm) (by rw [hyl]; simpa using hso.1) hid
          (fun p hp => by
            obtain ⟨q, hq, e⟩ := hall p hp
            rw [e]
            exact (kept_sub q.1.slots).nodup (hok q hq).2.2.2.2.2.2)
          (fun p hp => by
            obtain ⟨q, hq, e⟩ := hall p hp
            rw [e]
            have h1 : (kept q.1.slots).length ≤ q.1.slots.length := List.length_filter_le _ _
            have h2 := (hok q hq).2.2.2.2.2.1
            show (kept q.1.slots).length ≤ 64
            omega)
          (fun a' v' => a'.defers = [] ∧ ∃ u T', Rel (veil D11) w12 u ∧ a' = ⟨T', []⟩ ∧ T'[2]? = some (.bool true) ∧ Below u.heap.size u v') (fun T' W _ h2 hb => ⟨rfl, u, T', hu, rfl, h2, hb⟩)
        rw [hT]
        dsimp only at hx ⊢
        exact hx)
    refine (runs_will hon12.hid hwill3 hst12).then fun m13 t13 h13 => ?_
    clear hst12 hwill3
    obtain ⟨g13, w13, ⟨a13, v13, rfl, hr13, hs13, _, u, T', hu, rfl, hT2, hb⟩, hst13⟩ := h13
    have hon13 := hon12.trans (onto_lone hon12.dk hon12.rel hon12.hid (Nat.le_trans hB hon12.up) hu hr13 hs13 hb)
    refine (runs_sil (s37 (h0 := w13.heap) T' hT2) rfl hst13).mono fun m14 t14 h14 => ?_
    obtain ⟨g14, w14, ⟨⟨T3, todo, rfl, hT3⟩, hh14⟩, ho14, hst14⟩ := h14
    have hon14 := hon13.trans (onto_sil (w' := w14) hon13.dk hon13.rel hon13.hid hh14 ho14)
    have hsz14 : w14.heap.size = w13.heap.size := by rw [hh14]
    rw [← hsz14] at hst14
    exact ⟨w14, _, _, T3, todo, hon14.kw, hon14.os, hon14.up, hT3, hst14⟩
  · subst hv11
    have hact3 : after (base 3) ⟨tA3 a ds.length cap u1.heap.size p1 u2.heap.size, []⟩ ops33 1 [2, 3, 4, 5, 6] [.code k3] (.tuple #[.pointer none, .bool true]) = (base 3).at ⟨tA3n a ds.length cap u1.heap.size p1 u2.heap.size, []⟩ (.inRegion ops33 [2, 3, 4, 5, 6] :: [.code k3]) := act3n
    rw [hact3] at hst11
    clear hact3
    refine (runs_sil (s36n' (h0 := w11.heap)) rfl hst11).mono fun m12 t12 h12 => ?_
    obtain ⟨g12, w12, ⟨⟨T3, todo, rfl, hT3⟩, hh12⟩, ho12, hst12⟩ := h12
    have hon12 := hon11.trans (onto_sil (w' := w12) hon11.dk hon11.rel hon11.hid hh12 ho12)
    have hsz12 : w12.heap.size = w11.heap.size := by rw [hh12]
    rw [← hsz12] at hst12
    exact ⟨w12, _, _, T3, todo, hon12.kw, hon12.os, hon12.up, hT3, hst12⟩
end Go.Mark
/-
  Makes: the run, from a machine with nobody else to its end.
-/
set_option linter.unusedSectionVars false
namespace Go.Mark
open Go.Conc Go.Walk Go.Phase Go.RowKit Go.Lift Go.Proofs
/-- what bears other code lies in the dark -/
def D0 (W : World) (b : Nat) : Prop := ∃ o, W.heap[b]? = some o ∧ ¬ Fine (veil fun _ => False) o ∧ ¬ IsView o
theorem rel0 (W : World) : ∃ v, Rel (veil (D0 W)) W v := by
  refine exists_rel (fun b hb => ?_) (fun b o ho hv hf => ⟨o, ho, fun h => hf (fine_veil.1 h), hv⟩) (fun b c e f hb hc => ?_)
  · obtain ⟨o, ho, _⟩ := hb
    exact (Array.getElem?_eq_some_iff.1 ho).1
  · obtain ⟨o, ho, hf, _⟩ := hb
    rw [hc] at ho
    cases ho
    exact absurd trivial hf
theorem dk0 (W : World) : Dk W.heap.size (D0 W) W := fun b hb => by
  obtain ⟨o, ho, hf, hv⟩ := hb
  exact .inr ⟨(Array.getElem?_eq_some_iff.1 ho).1, o, ho, fun h => hf (fine_veil.1 h), hv⟩
theorem cell0 {W v : World} (h : Rel (veil (D0 W)) W v) : ∀ p x, W.cell? p = some x → v.cell? p = some x := fun p x hp => by
  have hb : v.heap[p.block]? = W.heap[p.block]? := by
    unfold World.cell? at hp
    cases ho : W.heap[p.block]? with
    | none => rw [ho] at hp; cases hp
    | some o =>
      rw [ho] at hp
      cases o with
      | cells c e f =>
        have hl := h.look p.block
        rw [ho] at hl
        generalize v.heap[p.block]? = y at hl
        have hn : ¬ D0 W p.block := fun ⟨o, h1, h2, _⟩ => by
          rw [ho] at h1
          cases h1
          exact h2 trivial
        cases hl with
        | dark hz => exact absurd hz hn
        | shut hz => exact absurd hz hn
        | view hv => exact hv.elim
        | same _ => rfl
      | _ => cases hp
  exact (World.cell?_of_block hb).trans hp
theorem stand0 (W : World) (g : Goroutine) : Stand Tryz.prog (fun _ => False) W.heap.size (0 + 1) g W (solo g W) #[] :=
  ⟨#[g], none, fun _ => 0, rfl, rfl, rfl, leavers_one _ _, ⟨past_nil.mono (Nat.zero_le _), fun _ _ _ _ _ h => h.elim, fun op hop => by simp at hop, fun op hop => by simp at hop⟩⟩
set_option maxRecDepth 100000 in
theorem enter3 (a : Option Addr) (n cap : Nat) : Frame.enter Tryz.prog 3 #[.slice a n cap] .normal = (base 3).at ⟨tA0 a n cap, []⟩ [.code (Tryz.f3.body.getD .skip)] := by
  have hb : Tryz.f3.body = some (Tryz.f3.body.getD .skip) := by kernel_rfl
  rw [enter_at _ Tryz.func3 hb, Tryz.ntmps3]
  unfold tA0
  have hs : (68 - (#[Value.slice a n cap] : Array Value).size) = 67 := rfl
  rw [hs, ← List.toArray_replicate, show List.replicate 67 undef = [undef, undef, undef, undef, undef, undef, undef, undef, undef, undef, undef, undef, undef, undef, undef, undef, undef, undef, undef, undef, undef, undef, undef, undef, undef, undef, undef, undef, undef, undef, undef, undef, undef, undef, undef, undef, undef, undef, undef, undef, undef, undef, undef, undef, undef, undef, undef, undef, undef, undef, undef, undef, undef, undef, undef, undef, undef, undef, undef, undef, undef, undef, undef, undef, undef, undef, undef] from rfl, List.append_toArray, List.cons_append, List.nil_append]
theorem runN_add {P : Program} {m m' : Machine} {a : Nat} (h : runN P a m = .next m') (b : Nat) : runN P (a + b) m = runN P b m' := by
  induction a generalizing m with
  | zero =>
    simp only [runN, Stepped.next.injEq] at h
    subst h
    rw [Nat.zero_add]
  | succ a ih =>
    rw [Nat.succ_add]
    simp only [runN] at h ⊢
    cases hs : step P m with
    | next m1 =>
      rw [hs] at h
      exact ih h
    | ended o w =>
      rw [hs] at h
      cases h
/-- what the run leaves -/
def PostM (W : World) (v : Value) (w' : World) : Prop := v = .bool true ∧ (∀ b, b < W.heap.size → w'.heap[b]? = W.heap[b]?) ∧ (w'.os = W.os ∧ w'.output = W.output) ∧ W.heap.size ≤ w'.heap.size
set_option maxRecDepth 100000 in
theorem the_run (W : World) (a : Option Addr) (cap : Nat) (ds : List (AccD × SV)) (hI : InR W a ds) :
    ∃ M last o w' t', runNT Tryz.prog (M + 1) (solo (G (Frame.enter Tryz.prog 3 #[.slice a ds.length cap] .normal) []) W) #[] = (.ended o w', t') ∧ runN Tryz.prog M (solo (G (Frame.enter Tryz.prog 3 #[.slice a ds.length cap] .normal) []) W) = .next last ∧
      step Tryz.prog last = .ended o w' ∧ Conc.Good Tryz.prog (PostM W) last o w' t' := by
  obtain ⟨v, hrel⟩ := rel0 W
  rw [enter3]
  obtain ⟨N, m1, t1, hrun, w1, Shun1, N1, T, todo, hkw, hos, hup, hT, hst⟩ := makes_runs (o := 0) (cap := cap) (Nat.le_refl _) hrel (dk0 W) (fun l hl => hl.elim) (hI.at (cell0 hrel)) (by omega) (stand0 W (G ((base 3).at ⟨tA0 a ds.length cap, []⟩ [.code (Tryz.f3.body.getD .skip)]) []))
  obtain ⟨gs, sl, q, rfl, hn, h0, hL, hP⟩ := hst.ex
  have hgo : Goes Tryz.prog true AtRel (fun _ _ _ => False) (AtEnd Tryz.prog Shun1 w1.heap.size (PostM W)) 0 (G { (base 3).at ⟨T, []⟩ todo with mode := .returning } []) w1 := fun w₂ h₂ => by
    obtain ⟨d, rfl⟩ := h₂
    refine ⟨rfl, .bool true, #[], ?_, by simp, rfl, hkw, hos, hup⟩
    simp [G, stepG, unwind, doReturn, results, Frame.at, base, Tryz.func3, seen, GStep.after, hT]
  obtain ⟨M, last, o, w', t', k1, k2, k3, k4⟩ := beside_ends (sl := sl) (fun _ _ _ h => h.elim) h0 hL hP.past hgo
  refine ⟨N + M, last, o, w', t', ?_, ?_, k3, k4⟩
  · rw [Nat.add_assoc, runNT_add, hrun]
    exact k1
  · rw [runN_add (by rw [← runNT_fst _ _ _ #[], hrun])]
    exact k2
end Go.Mark
