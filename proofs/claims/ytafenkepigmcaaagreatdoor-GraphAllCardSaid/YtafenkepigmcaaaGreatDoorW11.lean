/- graph: operations that came in, opened with their room. -/
import Derived.Test.YtafenkepigmcaaaGreatDoorW10
import Derived.Test.YtafenkepigmcaaaGreatDoorR1
namespace Go.Proofs.YtafenkepigmcaaaGreatDoor.Gr
open Go Go.ChangeShapes Go.WideShapes Go.ChangeAt Go.RowKit Go.Joins Go.ChangeMaps Go.Deep
section
variable {H : Type} {enc : TypeId × Value → H} {W : World} {held : Bool}
set_option maxRecDepth 100000 in
theorem open_ops2 {b0 : Nat} {v : Value} {d : DataW H} {p : List MemPlace} (hv : Value.okWide Tryz.prog W .any b0 31 v) (h : DataW.Trod enc Tryz.prog W 0 (fun _ => true) held 31 v d p) (hw : Wt 31 d) :
    ∃ (ao : Option Addr) (cap : Nat) (os : List Ox), v = .slice ao os.length cap ∧ (ao = none → cap = 0) ∧ RdO W ao os ∧ (∀ o ∈ os, o.wf) ∧ os.length * 48 ≤ 140737488355328 ∧ os.length ≤ cap := by
  obtain ⟨a, len0, cap0, rfl⟩ := okWide_slice Tryz.underlying31 hv
  obtain ⟨fuel, hf⟩ := h
  simp only [Value.cells] at hf
  obtain ⟨ao, cap, os, e, g1, g2, g3, g4⟩ := ops_open hf
  obtain ⟨ao', len, cap', D, E, ev, h1, _⟩ := open_rows Tryz.underlying31 (show Tryz.prog.cellsOf 75 = 7 by kernel_rfl) (by decide) (fun cs _ => ∃ o : Ox, cs = opC o ∧ o.wf) (fun fuel cs x hx => op_open hx) hf
  refine ⟨ao, cap, os, e, g1, g2, g3, g4 hw, ?_⟩
  rw [e] at ev
  simp only [Value.slice.injEq] at ev
  omega
end
end Go.Proofs.YtafenkepigmcaaaGreatDoor.Gr
