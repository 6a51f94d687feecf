/- The library's contracts for bits.Len64 and bytes.Count, at this dump's numbers. -/
import Derived.Shelf.Strconv.Itoa0
import Derived.Shelf.Bytes.SlCountOne
import Derived.Test.YtnjapbfnodfgpaaProg
namespace Go.Proofs
open Go.Shelf
def Try.ren129 : Go.Shelf.Ren := ⟨fun | 129 => 33 | n => n, fun | 46 => 57 | 53 => 22 | n => n, fun n => n⟩
theorem Try.lays129 : Go.Proofs.Lays.n129 Try.prog Try.ren129 := {
  mixed := by kernel_rfl
  f129 := Try.func33.trans (congrArg some (by kernel_rfl))
  t3 := Try.underlying3
  a3 := Try.isAgg3
  z3 := Try.sizeOf3
  v3 := Try.zeroValue3
  t4 := Try.underlying4
  a4 := Try.isAgg4
  z4 := Try.sizeOf4
  v4 := Try.zeroValue4
  t5 := Try.underlying5
  a5 := Try.isAgg5
  z5 := Try.sizeOf5
  v5 := Try.zeroValue5
  t9 := Try.underlying9
  a9 := Try.isAgg9
  z9 := Try.sizeOf9
  v9 := Try.zeroValue9
  t46 := Try.underlying57
  a46 := Try.isAgg57
  z46 := Try.sizeOf57
  v46 := Try.zeroValue57
  t53 := Try.underlying22
  a53 := Try.isAgg22
  z53 := Try.sizeOf22
  v53 := Try.zeroValue22 }
theorem Try.bits_Len64 (x : Int) (w : World) (h0 : 0 ≤ x) (h1 : x ≤ 18446744073709551615) :
    Calls Try.prog 33 #[.int .u64 x] w fun e w' => e = .returned (.int .i64 (Lib.bitLen x.toNat)) ∧ w' = w := Any.bits_Len64 Try.lays129 x w h0 h1
def Try.ren13 : Go.Shelf.Ren := ⟨fun | 13 => 30 | 25 => 35 | 12 => 36 | 24 => 34 | n => n, fun | 22 => 23 | n => n, fun n => n⟩
theorem Try.lays13 : Go.Proofs.SlLaysB.n13 Try.prog Try.ren13 := {
  mixed := by kernel_rfl
  f13 := Try.func30.trans (congrArg some (by kernel_rfl))
  f25 := Try.func35.trans (congrArg some (by kernel_rfl))
  t0 := Try.underlying0
  a0 := Try.isAgg0
  z0 := Try.sizeOf0
  v0 := Try.zeroValue0
  t3 := Try.underlying3
  a3 := Try.isAgg3
  z3 := Try.sizeOf3
  v3 := Try.zeroValue3
  t4 := Try.underlying4
  a4 := Try.isAgg4
  z4 := Try.sizeOf4
  v4 := Try.zeroValue4
  t5 := Try.underlying5
  a5 := Try.isAgg5
  z5 := Try.sizeOf5
  v5 := Try.zeroValue5
  t22 := Try.underlying23
  a22 := Try.isAgg23
  z22 := Try.sizeOf23
  v22 := Try.zeroValue23 }
end Go.Proofs
