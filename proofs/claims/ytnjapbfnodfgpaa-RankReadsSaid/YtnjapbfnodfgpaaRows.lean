/-
  No cell of these rows narrows 'for every input' (looked for: loops, veiled, ifaces, maps, wideKeys, modest, calm, conditions, laid).
  DERIVED. THE GIVEN ROWS OF THIS SEAT. 6 by the template 'for every input the law returns true; each argument reads behind the call as it read before'; 0 by the template 'total and deterministic' (their statements: YtnjapbfnodfgpaaTotals.lean).
  GIVEN WITH THE SEED: the statements are not yours to turn. If you find one false, say at which input.
  Laid BY PROGRAM, IN A SANDBOX (cutbox-rows.mjs): the forced cells as the released guide's own fill.sh prints them over the translation c13b2557de1c35b1… (all of the seat's roots in one cut). By AI agents, Wed Nov 11 2026. No macro, syntax, notation, axiom, sorry.
-/
import Derived.Test.YtnjapbfnodfgpaaChecked
import GoSem.Claim
import GoSem.ClaimJoined
import GoSem.ClaimMapViews
import Derived.JoinedTies
import Derived.KernelRfl
namespace Go.Proofs.Ytnjapbfnodfgpaa
/- THE CELL 'sum', in the pinned program and in every row, IS THE sha256 OF THE DUMP (.gsa) THAT YtnjapbfnodfgpaaProg.lean LOADS. Nothing in Lean hashes anything: it is a label: what it is worth is what the hold of that sum in a sandbox is worth. -/
noncomputable def Try.pinned : Pinned := { name := "ytnjapbfnodfgpaa", sum := "c13b2557de1c35b1f7c5322fc057f57d15fa5021e30c78edc33b4d416664de5a", checked := Try.checked }
namespace Rows
def none {H : Type} : Left H := { results := [], args := [] }

/-- 'gussetlaw04.RankWrites': WHATEVER THE INPUT: true; the input reads as it did. -/
def rankWritesSpec : ChangeSpec := { name := "rankWrites", fn := fun _ => fun
  | [d1, d2, d3, d4] => { results := [.lit (.bool true)], args := [d1, d2, d3, d4] }
  | _ => none }
def rankWritesRow : OpenClaim := { program := "ytnjapbfnodfgpaa", sum := "c13b2557de1c35b1f7c5322fc057f57d15fa5021e30c78edc33b4d416664de5a", func := "gusset/gussetlaw04.RankWrites", spec := "rankWrites", inPlace := ["internal/bytealg.Count", "internal/bytealg.IndexByte", "internal/bytealg.Index"], named := ["internal/bytealg.MaxLen"], apart := false }
def RankWritesSaid : Prop := rankWritesRow.holds Try.pinned (OpenSpec.ofChange rankWritesSpec)

/-- ITS FALSE NEIGHBOUR: 'it returns false'. Refute it at one input. -/
def rankWritesWrong : ChangeSpec := { name := "rankWrites", fn := fun _ => fun
  | [d1, d2, d3, d4] => { results := [.lit (.bool false)], args := [d1, d2, d3, d4] }
  | _ => none }
def RankWritesWrongFalsely : Prop := rankWritesRow.holds Try.pinned (OpenSpec.ofChange rankWritesWrong)

/-- 'gussetlaw04.RankReads': WHATEVER THE INPUT: true; the input reads as it did. -/
def rankReadsSpec : ChangeSpec := { name := "rankReads", fn := fun _ => fun
  | [d1, d2] => { results := [.lit (.bool true)], args := [d1, d2] }
  | _ => none }
def rankReadsRow : OpenClaim := { program := "ytnjapbfnodfgpaa", sum := "c13b2557de1c35b1f7c5322fc057f57d15fa5021e30c78edc33b4d416664de5a", func := "gusset/gussetlaw04.RankReads", spec := "rankReads", inPlace := ["internal/bytealg.Count", "internal/bytealg.IndexByte", "internal/bytealg.Index"], named := ["internal/bytealg.MaxLen"], apart := false }
def RankReadsSaid : Prop := rankReadsRow.holds Try.pinned (OpenSpec.ofChange rankReadsSpec)

/-- ITS FALSE NEIGHBOUR: 'it returns false'. Refute it at one input. -/
def rankReadsWrong : ChangeSpec := { name := "rankReads", fn := fun _ => fun
  | [d1, d2] => { results := [.lit (.bool false)], args := [d1, d2] }
  | _ => none }
def RankReadsWrongFalsely : Prop := rankReadsRow.holds Try.pinned (OpenSpec.ofChange rankReadsWrong)

/-- 'gussetlaw04.RankNumbers': WHATEVER THE INPUT: true; the input reads as it did. -/
def rankNumbersSpec : ChangeSpec := { name := "rankNumbers", fn := fun _ => fun
  | [d1, d2, d3, d4] => { results := [.lit (.bool true)], args := [d1, d2, d3, d4] }
  | _ => none }
def rankNumbersRow : OpenClaim := { program := "ytnjapbfnodfgpaa", sum := "c13b2557de1c35b1f7c5322fc057f57d15fa5021e30c78edc33b4d416664de5a", func := "gusset/gussetlaw04.RankNumbers", spec := "rankNumbers", inPlace := ["internal/bytealg.Count", "internal/bytealg.IndexByte", "internal/bytealg.Index"], named := ["internal/bytealg.MaxLen"], apart := false }
def RankNumbersSaid : Prop := rankNumbersRow.holds Try.pinned (OpenSpec.ofChange rankNumbersSpec)

/-- ITS FALSE NEIGHBOUR: 'it returns false'. Refute it at one input. -/
def rankNumbersWrong : ChangeSpec := { name := "rankNumbers", fn := fun _ => fun
  | [d1, d2, d3, d4] => { results := [.lit (.bool false)], args := [d1, d2, d3, d4] }
  | _ => none }
def RankNumbersWrongFalsely : Prop := rankNumbersRow.holds Try.pinned (OpenSpec.ofChange rankNumbersWrong)

/-- 'gussetlaw04.RankTexts': WHATEVER THE INPUT: true; the input reads as it did. -/
def rankTextsSpec : ChangeSpec := { name := "rankTexts", fn := fun _ => fun
  | [d1, d2] => { results := [.lit (.bool true)], args := [d1, d2] }
  | _ => none }
def rankTextsRow : OpenClaim := { program := "ytnjapbfnodfgpaa", sum := "c13b2557de1c35b1f7c5322fc057f57d15fa5021e30c78edc33b4d416664de5a", func := "gusset/gussetlaw04.RankTexts", spec := "rankTexts", inPlace := ["internal/bytealg.Count", "internal/bytealg.IndexByte", "internal/bytealg.Index"], named := ["internal/bytealg.MaxLen"], apart := false }
def RankTextsSaid : Prop := rankTextsRow.holds Try.pinned (OpenSpec.ofChange rankTextsSpec)

/-- ITS FALSE NEIGHBOUR: 'it returns false'. Refute it at one input. -/
def rankTextsWrong : ChangeSpec := { name := "rankTexts", fn := fun _ => fun
  | [d1, d2] => { results := [.lit (.bool false)], args := [d1, d2] }
  | _ => none }
def RankTextsWrongFalsely : Prop := rankTextsRow.holds Try.pinned (OpenSpec.ofChange rankTextsWrong)

/-- 'gussetlaw04.RankRows': WHATEVER THE INPUT: true; the input reads as it did. -/
def rankRowsSpec : ChangeSpec := { name := "rankRows", fn := fun _ => fun
  | [d1, d2] => { results := [.lit (.bool true)], args := [d1, d2] }
  | _ => none }
def rankRowsRow : OpenClaim := { program := "ytnjapbfnodfgpaa", sum := "c13b2557de1c35b1f7c5322fc057f57d15fa5021e30c78edc33b4d416664de5a", func := "gusset/gussetlaw04.RankRows", spec := "rankRows", inPlace := ["internal/bytealg.Count", "internal/bytealg.IndexByte", "internal/bytealg.Index"], named := ["internal/bytealg.MaxLen"], apart := false }
def RankRowsSaid : Prop := rankRowsRow.holds Try.pinned (OpenSpec.ofChange rankRowsSpec)

/-- ITS FALSE NEIGHBOUR: 'it returns false'. Refute it at one input. -/
def rankRowsWrong : ChangeSpec := { name := "rankRows", fn := fun _ => fun
  | [d1, d2] => { results := [.lit (.bool false)], args := [d1, d2] }
  | _ => none }
def RankRowsWrongFalsely : Prop := rankRowsRow.holds Try.pinned (OpenSpec.ofChange rankRowsWrong)

/-- 'gussetlaw04.RankApart': WHATEVER THE INPUT: true; the input reads as it did. -/
def rankApartSpec : ChangeSpec := { name := "rankApart", fn := fun _ => fun
  | [d1, d2] => { results := [.lit (.bool true)], args := [d1, d2] }
  | _ => none }
def rankApartRow : OpenClaim := { program := "ytnjapbfnodfgpaa", sum := "c13b2557de1c35b1f7c5322fc057f57d15fa5021e30c78edc33b4d416664de5a", func := "gusset/gussetlaw04.RankApart", spec := "rankApart", inPlace := ["internal/bytealg.Count", "internal/bytealg.IndexByte", "internal/bytealg.Index"], named := ["internal/bytealg.MaxLen"], apart := false }
def RankApartSaid : Prop := rankApartRow.holds Try.pinned (OpenSpec.ofChange rankApartSpec)

/-- ITS FALSE NEIGHBOUR: 'it returns false'. Refute it at one input. -/
def rankApartWrong : ChangeSpec := { name := "rankApart", fn := fun _ => fun
  | [d1, d2] => { results := [.lit (.bool false)], args := [d1, d2] }
  | _ => none }
def RankApartWrongFalsely : Prop := rankApartRow.holds Try.pinned (OpenSpec.ofChange rankApartWrong)

/- THE SECOND FORM. 'bulk': how many values and letters a reading holds, each counted each time it is reached (what is shared counts as often as it is met; a slice's spare places count too). A statement '..UptoSaid' is the law's where the arguments, and the package variables that the reading takes, are together of bulk at most 1048576: NARROWER than '..Said'. Prove '..Said' where nothing that the law and all that it calls make is longer than what came in: it says more and counts as full. Else prove '..UptoSaid'. A law counts once. -/
mutual
def uptoBulk {H : Type} : DataW H → Nat
  | .lit (.string bytes) => bytes.length + 1
  | .lit _ => 1
  | .nil => 1
  | .ptr d => uptoBulk d + 1
  | .slice elems spare => uptoBulkAll elems + uptoBulkAll spare + 1
  | .agg parts => uptoBulkAll parts + 1
  | .iface _ d => uptoBulk d + 1
  | .map entries => uptoBulkEntries entries + 1
  | .held _ => 1
def uptoBulkAll {H : Type} : List (DataW H) → Nat
  | [] => 0
  | d :: r => uptoBulk d + uptoBulkAll r
def uptoBulkEntries {H : Type} : List (Lit × DataW H) → Nat
  | [] => 0
  | x :: r => uptoBulkEntry x + uptoBulkEntries r
def uptoBulkEntry {H : Type} : Lit × DataW H → Nat
  | (.string bytes, d) => bytes.length + uptoBulk d + 1
  | (_, d) => uptoBulk d + 1
 end
def uptoSmall : (H : Type) → List (DataW H) → Bool := fun _ ds => decide (uptoBulkAll ds ≤ 1048576)
def OpenSpec.upto (s : _root_.Go.ChangeSpec) : _root_.Go.OpenSpec := { _root_.Go.OpenSpec.ofChange s with cond := some uptoSmall }

/-- 'gussetlaw04.RankWrites', WHERE WHAT IT READS IS OF BULK AT MOST 1048576: true; the input reads as it did. -/
def rankWritesUptoRow : OpenClaim := { program := "ytnjapbfnodfgpaa", sum := "c13b2557de1c35b1f7c5322fc057f57d15fa5021e30c78edc33b4d416664de5a", func := "gusset/gussetlaw04.RankWrites", spec := "rankWrites", inPlace := ["internal/bytealg.Count", "internal/bytealg.IndexByte", "internal/bytealg.Index"], named := ["internal/bytealg.MaxLen"], apart := false, narrowed := true }
def RankWritesUptoSaid : Prop := rankWritesUptoRow.holds Try.pinned (OpenSpec.upto rankWritesSpec)

/-- 'gussetlaw04.RankReads', WHERE WHAT IT READS IS OF BULK AT MOST 1048576: true; the input reads as it did. -/
def rankReadsUptoRow : OpenClaim := { program := "ytnjapbfnodfgpaa", sum := "c13b2557de1c35b1f7c5322fc057f57d15fa5021e30c78edc33b4d416664de5a", func := "gusset/gussetlaw04.RankReads", spec := "rankReads", inPlace := ["internal/bytealg.Count", "internal/bytealg.IndexByte", "internal/bytealg.Index"], named := ["internal/bytealg.MaxLen"], apart := false, narrowed := true }
def RankReadsUptoSaid : Prop := rankReadsUptoRow.holds Try.pinned (OpenSpec.upto rankReadsSpec)

/-- 'gussetlaw04.RankNumbers', WHERE WHAT IT READS IS OF BULK AT MOST 1048576: true; the input reads as it did. -/
def rankNumbersUptoRow : OpenClaim := { program := "ytnjapbfnodfgpaa", sum := "c13b2557de1c35b1f7c5322fc057f57d15fa5021e30c78edc33b4d416664de5a", func := "gusset/gussetlaw04.RankNumbers", spec := "rankNumbers", inPlace := ["internal/bytealg.Count", "internal/bytealg.IndexByte", "internal/bytealg.Index"], named := ["internal/bytealg.MaxLen"], apart := false, narrowed := true }
def RankNumbersUptoSaid : Prop := rankNumbersUptoRow.holds Try.pinned (OpenSpec.upto rankNumbersSpec)

/-- 'gussetlaw04.RankTexts', WHERE WHAT IT READS IS OF BULK AT MOST 1048576: true; the input reads as it did. -/
def rankTextsUptoRow : OpenClaim := { program := "ytnjapbfnodfgpaa", sum := "c13b2557de1c35b1f7c5322fc057f57d15fa5021e30c78edc33b4d416664de5a", func := "gusset/gussetlaw04.RankTexts", spec := "rankTexts", inPlace := ["internal/bytealg.Count", "internal/bytealg.IndexByte", "internal/bytealg.Index"], named := ["internal/bytealg.MaxLen"], apart := false, narrowed := true }
def RankTextsUptoSaid : Prop := rankTextsUptoRow.holds Try.pinned (OpenSpec.upto rankTextsSpec)

/-- 'gussetlaw04.RankRows', WHERE WHAT IT READS IS OF BULK AT MOST 1048576: true; the input reads as it did. -/
def rankRowsUptoRow : OpenClaim := { program := "ytnjapbfnodfgpaa", sum := "c13b2557de1c35b1f7c5322fc057f57d15fa5021e30c78edc33b4d416664de5a", func := "gusset/gussetlaw04.RankRows", spec := "rankRows", inPlace := ["internal/bytealg.Count", "internal/bytealg.IndexByte", "internal/bytealg.Index"], named := ["internal/bytealg.MaxLen"], apart := false, narrowed := true }
def RankRowsUptoSaid : Prop := rankRowsUptoRow.holds Try.pinned (OpenSpec.upto rankRowsSpec)

/-- 'gussetlaw04.RankApart', WHERE WHAT IT READS IS OF BULK AT MOST 1048576: true; the input reads as it did. -/
def rankApartUptoRow : OpenClaim := { program := "ytnjapbfnodfgpaa", sum := "c13b2557de1c35b1f7c5322fc057f57d15fa5021e30c78edc33b4d416664de5a", func := "gusset/gussetlaw04.RankApart", spec := "rankApart", inPlace := ["internal/bytealg.Count", "internal/bytealg.IndexByte", "internal/bytealg.Index"], named := ["internal/bytealg.MaxLen"], apart := false, narrowed := true }
def RankApartUptoSaid : Prop := rankApartUptoRow.holds Try.pinned (OpenSpec.upto rankApartSpec)

end Rows
end Go.Proofs.Ytnjapbfnodfgpaa
