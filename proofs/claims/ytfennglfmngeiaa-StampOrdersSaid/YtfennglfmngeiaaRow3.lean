/- A stamp that came in, opened. -/
import Derived.Test.YtfennglfmngeiaaRow2
namespace Go.Proofs.Ytfennglfmngeiaa.St
open Go Go.ChangeShapes Go.WideShapes Go.ChangeAt Go.RowKit Go.Joins Go.ChangeMaps Go.Deep
section
variable {H : Type} {enc : TypeId × Value → H} {W : World} {base : Nat} {spare : Nat → Bool} {held : Bool}
theorem open_stamp {b0 : Nat} {v : Value} {d : DataW H} {p : List MemPlace} (hv : Value.okWide Try.prog W .any b0 37 v) (h : DataW.Trod enc Try.prog W 0 (fun _ => true) held 37 v d p) :
    ∃ q : Q, v = .agg (encQ q).toArray := by
  obtain ⟨cs, rfl, hsz⟩ := okWide_struct Try.underlying37 hv
  obtain ⟨fuel, hf⟩ := h
  obtain ⟨_, q, hq⟩ := stamp_open hf
  refine ⟨q, ?_⟩
  rw [← hq]
  simp [Value.cells]
end
end Go.Proofs.Ytfennglfmngeiaa.St
