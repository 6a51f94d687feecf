/- What the rows of the texts need besides: the errors that strconv hands out, listed; the room that an argument takes. -/
import Derived.Test.YthmnkbldgpdejaaDoorRow
import Derived.Test.YthmnkbldgpdejaaDoorW14
import Derived.Deep.DeepWitnessRowRef
namespace Go.Proofs.YthmnkbldgpdejaaDoor.Val
open Go Go.ChangeShapes Go.WideShapes Go.ChangeAt Go.RowKit Go.Joins Go.ChangeMaps Go.Deep
theorem gSyn : Tryd.prog.globalNamed "strconv.ErrSyntax" = some 1 := by kernel_rfl
theorem gRng : Tryd.prog.globalNamed "strconv.ErrRange" = some 2 := by kernel_rfl
theorem tSyn : (Tryd.prog.globals[1]?).map (·.type) = some 65 := by kernel_rfl
theorem tRng : (Tryd.prog.globals[2]?).map (·.type) = some 65 := by kernel_rfl
theorem errs {W : World} {a b c : String × DataW Unit} {n1 n2 : String} {d1 d2 : DataW Unit}
    (h : laidMet Tryd.prog [a, b, c, ("strconv.ErrRange", .iface n1 d1), ("strconv.ErrSyntax", .iface n2 d2)] W) : ErrV W := by
  obtain ⟨ps, ⟨_, _, _, _, _, _, _, _, _, _, ⟨_, _, _, _, _, _, _, _, _, _, ⟨_, _, _, _, _, _, _, _, _, _, ⟨g, t, cs, fuel, p, q, hg, ht, hv, hd, ⟨g', t', cs', fuel', p', q', hg', ht', hv', hd', _, _⟩, _⟩, _⟩, _⟩, _⟩, _⟩ := h
  obtain rfl := Option.some.inj (gRng.symm.trans hg)
  obtain rfl := Option.some.inj (tRng.symm.trans ht)
  obtain rfl := Option.some.inj (gSyn.symm.trans hg')
  obtain rfl := Option.some.inj (tSyn.symm.trans ht')
  obtain ⟨_, u, v, e, _, _⟩ := iface_of_trod Tryd.underlying65 hd
  obtain ⟨_, u', v', e', _, _⟩ := iface_of_trod Tryd.underlying65 hd'
  have c0 := World.var?_cell hg hv 0
  have c1 := World.var?_cell hg' hv' 0
  rw [Array.eq_one_of_toList e] at c0
  rw [Array.eq_one_of_toList e'] at c1
  exact ⟨⟨_, by simpa using c1, .inr ⟨_, _, rfl⟩⟩, ⟨_, by simpa using c0, .inr ⟨_, _, rfl⟩⟩⟩
theorem door5 (os : Os) (args : Array Value) : laidMet Tryd.prog Rows.valueTextsRow.laid ((doorW os).forCall (fun _ _ => 0) ⟨#[], args, []⟩).memory :=
  laidMet_of_run' 8 (by kernel_rfl) (by kernel_rfl)
theorem room {l : List UInt8} {m : Nat} (h : l.length ≤ reachBytes) (e : l.length = m) : m ≤ 281474976710656 := by
  unfold reachBytes at h; omega
end Go.Proofs.YthmnkbldgpdejaaDoor.Val
