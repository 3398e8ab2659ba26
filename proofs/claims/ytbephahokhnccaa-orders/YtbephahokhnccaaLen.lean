/-
  math/bits.Len64 and LeadingZeros64 at this program: what they return (the number of bits).
-/
import Derived.Test.YtbephahokhnccaaBits
import Derived.Lib.Strings
import Derived.Lib.Slices
import Derived.Lib.Small
import Derived.Lib.Walk
import Derived.Lib.BitFns
namespace Go.Proofs.Ytbephahokhnccaa
open Go.RowKit Go.Shelf

theorem fold75 : (⟨((List.append [0, 1, 2, 2, 3, 3, 3, 3, 4, 4, 4, 4, 4, 4, 4, 4, 5, 5, 5, 5, 5, 5, 5, 5, 5, 5, 5, 5, 5, 5, 5, 5, 6, 6, 6, 6, 6, 6, 6, 6, 6, 6, 6, 6, 6, 6, 6, 6, 6, 6, 6, 6, 6, 6, 6, 6, 6, 6, 6, 6, 6, 6, 6, 6] [7, 7, 7, 7, 7, 7, 7, 7, 7, 7, 7, 7, 7, 7, 7, 7, 7, 7, 7, 7, 7, 7, 7, 7, 7, 7, 7, 7, 7, 7, 7, 7, 7, 7, 7, 7, 7, 7, 7, 7, 7, 7, 7, 7, 7, 7, 7, 7, 7, 7, 7, 7, 7, 7, 7, 7, 7, 7, 7, 7, 7, 7, 7, 7]).append (List.append [8, 8, 8, 8, 8, 8, 8, 8, 8, 8, 8, 8, 8, 8, 8, 8, 8, 8, 8, 8, 8, 8, 8, 8, 8, 8, 8, 8, 8, 8, 8, 8, 8, 8, 8, 8, 8, 8, 8, 8, 8, 8, 8, 8, 8, 8, 8, 8, 8, 8, 8, 8, 8, 8, 8, 8, 8, 8, 8, 8, 8, 8, 8, 8] [8, 8, 8, 8, 8, 8, 8, 8, 8, 8, 8, 8, 8, 8, 8, 8, 8, 8, 8, 8, 8, 8, 8, 8, 8, 8, 8, 8, 8, 8, 8, 8, 8, 8, 8, 8, 8, 8, 8, 8, 8, 8, 8, 8, 8, 8, 8, 8, 8, 8, 8, 8, 8, 8, 8, 8, 8, 8, 8, 8, 8, 8, 8, 8])).toArray⟩ : ByteArray) = Lib.len8tab := by decide +kernel

theorem idx75 (i : Int) (h0 : 0 ≤ i) (h1 : i < 256) (w : World) : (Instr.index 9 (.string Lib.len8tab) (.int .u8 i)).run Try.prog w = .ok (.int .u8 (Lib.len8 i)) w :=
  Lib.run_index_len8tab w 9 .u8 i (by kernel_rfl) h0 (by omega)

theorem len8_bd (i : Int) (h0 : 0 ≤ i) (h1 : i < 256) : 0 ≤ Lib.len8 i ∧ Lib.len8 i ≤ 8 := by
  rw [Lib.len8_of i h0 (by omega)]
  have := Lib.bitLen_le8' i h0 (by omega)
  omega

set_option maxHeartbeats 1000000 in
set_option maxRecDepth 100000 in
theorem len64_111 (x : Int) (w : World) (h0 : 0 ≤ x) (h1 : x ≤ 18446744073709551615) (g0 : 4294967296 ≤ x) (g1 : 65536 ≤ x / 4294967296) (g2 : 256 ≤ x / 4294967296 / 65536) :
    Calls Try.prog 75 #[.int .u64 x] w fun e w' => e = .returned (.int .i64 (Lib.bitLen x.toNat)) ∧ w' = w := by
  have k0 : 0 ≤ x / 4294967296 / 65536 / 256 := by omega
  have k1 : x / 4294967296 / 65536 / 256 < 256 := by omega
  have hi := idx75 (x / 4294967296 / 65536 / 256) k0 k1
  have hb := len8_bd (x / 4294967296 / 65536 / 256) k0 k1
  have hb0 := hb.1
  have hb1 := hb.2
  clear hb
  go_enter Try.func75, Try.ntmps75
  rw [fold75]
  go_wp2
  go_ret
  refine ⟨congrArg Ending.returned (congrArg (Value.int IntKind.i64) ?_), rfl⟩
  rw [Lib.len8_of (x / 4294967296 / 65536 / 256) k0 (by omega)]
  have s := Lib.bitLen_shift56 x.toNat (by omega) (by omega)
  have e : (x / 4294967296 / 65536 / 256).toNat = x.toNat / 72057594037927936 := by omega
  rw [e]
  omega

set_option maxHeartbeats 1000000 in
set_option maxRecDepth 100000 in
theorem len64_110 (x : Int) (w : World) (h0 : 0 ≤ x) (h1 : x ≤ 18446744073709551615) (g0 : 4294967296 ≤ x) (g1 : 65536 ≤ x / 4294967296) (g2 : x / 4294967296 / 65536 < 256) :
    Calls Try.prog 75 #[.int .u64 x] w fun e w' => e = .returned (.int .i64 (Lib.bitLen x.toNat)) ∧ w' = w := by
  have k0 : 0 ≤ x / 4294967296 / 65536 := by omega
  have k1 : x / 4294967296 / 65536 < 256 := by omega
  have hi := idx75 (x / 4294967296 / 65536) k0 k1
  have hb := len8_bd (x / 4294967296 / 65536) k0 k1
  have hb0 := hb.1
  have hb1 := hb.2
  clear hb
  go_enter Try.func75, Try.ntmps75
  rw [fold75]
  go_wp2
  go_ret
  refine ⟨congrArg Ending.returned (congrArg (Value.int IntKind.i64) ?_), rfl⟩
  rw [Lib.len8_of (x / 4294967296 / 65536) k0 (by omega)]
  have s := Lib.bitLen_shift48 x.toNat (by omega) (by omega)
  have e : (x / 4294967296 / 65536).toNat = x.toNat / 281474976710656 := by omega
  rw [e]
  omega

set_option maxHeartbeats 1000000 in
set_option maxRecDepth 100000 in
theorem len64_101 (x : Int) (w : World) (h0 : 0 ≤ x) (h1 : x ≤ 18446744073709551615) (g0 : 4294967296 ≤ x) (g1 : x / 4294967296 < 65536) (g2 : 256 ≤ x / 4294967296) :
    Calls Try.prog 75 #[.int .u64 x] w fun e w' => e = .returned (.int .i64 (Lib.bitLen x.toNat)) ∧ w' = w := by
  have k0 : 0 ≤ x / 4294967296 / 256 := by omega
  have k1 : x / 4294967296 / 256 < 256 := by omega
  have hi := idx75 (x / 4294967296 / 256) k0 k1
  have hb := len8_bd (x / 4294967296 / 256) k0 k1
  have hb0 := hb.1
  have hb1 := hb.2
  clear hb
  go_enter Try.func75, Try.ntmps75
  rw [fold75]
  go_wp2
  go_ret
  refine ⟨congrArg Ending.returned (congrArg (Value.int IntKind.i64) ?_), rfl⟩
  rw [Lib.len8_of (x / 4294967296 / 256) k0 (by omega)]
  have s := Lib.bitLen_shift40 x.toNat (by omega) (by omega)
  have e : (x / 4294967296 / 256).toNat = x.toNat / 1099511627776 := by omega
  rw [e]
  omega

set_option maxHeartbeats 1000000 in
set_option maxRecDepth 100000 in
theorem len64_100 (x : Int) (w : World) (h0 : 0 ≤ x) (h1 : x ≤ 18446744073709551615) (g0 : 4294967296 ≤ x) (_g1 : x / 4294967296 < 65536) (g2 : x / 4294967296 < 256) :
    Calls Try.prog 75 #[.int .u64 x] w fun e w' => e = .returned (.int .i64 (Lib.bitLen x.toNat)) ∧ w' = w := by
  have k0 : 0 ≤ x / 4294967296 := by omega
  have k1 : x / 4294967296 < 256 := by omega
  have hi := idx75 (x / 4294967296) k0 k1
  have hb := len8_bd (x / 4294967296) k0 k1
  have hb0 := hb.1
  have hb1 := hb.2
  clear hb
  go_enter Try.func75, Try.ntmps75
  rw [fold75]
  go_wp2
  go_ret
  refine ⟨congrArg Ending.returned (congrArg (Value.int IntKind.i64) ?_), rfl⟩
  rw [Lib.len8_of (x / 4294967296) k0 (by omega)]
  have s := Lib.bitLen_shift32 x.toNat (by omega) (by omega)
  have e : (x / 4294967296).toNat = x.toNat / 4294967296 := by omega
  rw [e]
  omega

set_option maxHeartbeats 1000000 in
set_option maxRecDepth 100000 in
theorem len64_011 (x : Int) (w : World) (h0 : 0 ≤ x) (h1 : x ≤ 18446744073709551615) (g0 : x < 4294967296) (g1 : 65536 ≤ x) (g2 : 256 ≤ x / 65536) :
    Calls Try.prog 75 #[.int .u64 x] w fun e w' => e = .returned (.int .i64 (Lib.bitLen x.toNat)) ∧ w' = w := by
  have k0 : 0 ≤ x / 65536 / 256 := by omega
  have k1 : x / 65536 / 256 < 256 := by omega
  have hi := idx75 (x / 65536 / 256) k0 k1
  have hb := len8_bd (x / 65536 / 256) k0 k1
  have hb0 := hb.1
  have hb1 := hb.2
  clear hb
  go_enter Try.func75, Try.ntmps75
  rw [fold75]
  go_wp2
  go_ret
  refine ⟨congrArg Ending.returned (congrArg (Value.int IntKind.i64) ?_), rfl⟩
  rw [Lib.len8_of (x / 65536 / 256) k0 (by omega)]
  have s := Lib.bitLen_shift24 x.toNat (by omega) (by omega)
  have e : (x / 65536 / 256).toNat = x.toNat / 16777216 := by omega
  rw [e]
  omega

set_option maxHeartbeats 1000000 in
set_option maxRecDepth 100000 in
theorem len64_010 (x : Int) (w : World) (h0 : 0 ≤ x) (h1 : x ≤ 18446744073709551615) (g0 : x < 4294967296) (g1 : 65536 ≤ x) (g2 : x / 65536 < 256) :
    Calls Try.prog 75 #[.int .u64 x] w fun e w' => e = .returned (.int .i64 (Lib.bitLen x.toNat)) ∧ w' = w := by
  have k0 : 0 ≤ x / 65536 := by omega
  have k1 : x / 65536 < 256 := by omega
  have hi := idx75 (x / 65536) k0 k1
  have hb := len8_bd (x / 65536) k0 k1
  have hb0 := hb.1
  have hb1 := hb.2
  clear hb
  go_enter Try.func75, Try.ntmps75
  rw [fold75]
  go_wp2
  go_ret
  refine ⟨congrArg Ending.returned (congrArg (Value.int IntKind.i64) ?_), rfl⟩
  rw [Lib.len8_of (x / 65536) k0 (by omega)]
  have s := Lib.bitLen_shift16 x.toNat (by omega) (by omega)
  have e : (x / 65536).toNat = x.toNat / 65536 := by omega
  rw [e]
  omega

set_option maxHeartbeats 1000000 in
set_option maxRecDepth 100000 in
theorem len64_001 (x : Int) (w : World) (h0 : 0 ≤ x) (h1 : x ≤ 18446744073709551615) (g0 : x < 4294967296) (g1 : x < 65536) (g2 : 256 ≤ x) :
    Calls Try.prog 75 #[.int .u64 x] w fun e w' => e = .returned (.int .i64 (Lib.bitLen x.toNat)) ∧ w' = w := by
  have k0 : 0 ≤ x / 256 := by omega
  have k1 : x / 256 < 256 := by omega
  have hi := idx75 (x / 256) k0 k1
  have hb := len8_bd (x / 256) k0 k1
  have hb0 := hb.1
  have hb1 := hb.2
  clear hb
  go_enter Try.func75, Try.ntmps75
  rw [fold75]
  go_wp2
  go_ret
  refine ⟨congrArg Ending.returned (congrArg (Value.int IntKind.i64) ?_), rfl⟩
  rw [Lib.len8_of (x / 256) k0 (by omega)]
  have s := Lib.bitLen_shift8 x.toNat (by omega) (by omega)
  have e : (x / 256).toNat = x.toNat / 256 := by omega
  rw [e]
  omega

set_option maxHeartbeats 1000000 in
set_option maxRecDepth 100000 in
theorem len64_000 (x : Int) (w : World) (h0 : 0 ≤ x) (h1 : x ≤ 18446744073709551615) (g0 : x < 4294967296) (g1 : x < 65536) (g2 : x < 256) :
    Calls Try.prog 75 #[.int .u64 x] w fun e w' => e = .returned (.int .i64 (Lib.bitLen x.toNat)) ∧ w' = w := by
  have k0 : 0 ≤ x := by omega
  have k1 : x < 256 := by omega
  have hi := idx75 (x) k0 k1
  have hb := len8_bd (x) k0 k1
  have hb0 := hb.1
  have hb1 := hb.2
  clear hb
  go_enter Try.func75, Try.ntmps75
  rw [fold75]
  go_wp2
  go_ret
  refine ⟨congrArg Ending.returned (congrArg (Value.int IntKind.i64) ?_), rfl⟩
  rw [Lib.len8_of (x) k0 (by omega)]

theorem len64 (x : Int) (w : World) (h0 : 0 ≤ x) (h1 : x ≤ 18446744073709551615) :
    Calls Try.prog 75 #[.int .u64 x] w fun e w' => e = .returned (.int .i64 (Lib.bitLen x.toNat)) ∧ w' = w := by
  rcases Int.lt_or_le (x) 4294967296 with g0 | g0
  · rcases Int.lt_or_le (x) 65536 with g1 | g1
    · rcases Int.lt_or_le (x) 256 with g2 | g2
      · exact len64_000 x w h0 h1 g0 g1 g2
      · exact len64_001 x w h0 h1 g0 g1 g2
    · rcases Int.lt_or_le (x / 65536) 256 with g2 | g2
      · exact len64_010 x w h0 h1 g0 g1 g2
      · exact len64_011 x w h0 h1 g0 g1 g2
  · rcases Int.lt_or_le (x / 4294967296) 65536 with g1 | g1
    · rcases Int.lt_or_le (x / 4294967296) 256 with g2 | g2
      · exact len64_100 x w h0 h1 g0 g1 g2
      · exact len64_101 x w h0 h1 g0 g1 g2
    · rcases Int.lt_or_le (x / 4294967296 / 65536) 256 with g2 | g2
      · exact len64_110 x w h0 h1 g0 g1 g2
      · exact len64_111 x w h0 h1 g0 g1 g2

set_option maxHeartbeats 400000 in
theorem leadingZeros64 (x : Int) (w : World) (h0 : 0 ≤ x) (h1 : x ≤ 18446744073709551615) :
    Calls Try.prog 71 #[.int .u64 x] w fun e w' => e = .returned (.int .i64 (64 - Lib.bitLen x.toNat)) ∧ w' = w := by
  have hl := Lib.bitLen_le x.toNat 64 (Nat.le_refl _) (by omega)
  go_enter Try.func71, Try.ntmps71
  go_wp2_with (go_at_call 75; refine (len64 x _ h0 h1).mono ?_; rintro e w' ⟨rfl, rfl⟩)
  go_ret
  exact ⟨rfl, rfl⟩

end Go.Proofs.Ytbephahokhnccaa
