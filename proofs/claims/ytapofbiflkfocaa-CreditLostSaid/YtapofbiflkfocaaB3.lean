/- credit: bytes that stand from an address on. -/
import Derived.Test.YtapofbiflkfocaaB2
namespace Go.Proofs.Ytapofbiflkfocaa.Cr
open Go Go.RowKit
/-- Bytes that stand from an address on. -/
def Rd (w : World) (ao : Option Addr) (l : List Int) : Prop :=
  ∀ k x, l[k]? = some x → ∃ b off, ao = some ⟨b, off, none⟩ ∧ b < w.heap.size ∧ w.cell? ⟨b, off + k, none⟩ = some (.int .u8 x)
theorem Rd.on {w w' : World} {ao : Option Addr} {l : List Int} (h : Rd w ao l) {B : Nat} (hb : Below B w w') (hB : w.heap.size ≤ B) : Rd w' ao l := fun k x hx => by
  obtain ⟨b, off, h1, h2, h3⟩ := h k x hx
  exact ⟨b, off, h1, Nat.lt_of_lt_of_le h2 hb.size, (hb.cell (p := ⟨b, off + k, none⟩) (by simp; omega)).trans h3⟩
end Go.Proofs.Ytapofbiflkfocaa.Cr
