/- Sort, walked, out of the library's contract. -/
import Derived.Test.YtfennglfmngeiaaW10
import Derived.Test.YtfennglfmngeiaaOrd
import Derived.Shelf.GgSortFunc.InsertionK
import Derived.Shelf.SlSortFuncK.ComposeK
import Derived.Lib.OwnBridge
namespace Go.Proofs.Ytfennglfmngeiaa.St
open Go Go.RowKit Go.Sort
/-- What the library says of slices.SortFunc here. -/
def SortsQ : Prop := ∀ (blk off cap : Nat) (d : Array Q) (w : World), HoldsK encQ 4 w blk off d → blk < w.heap.size → d.size < 4611686018427387904 →
  Calls Try.prog 28 #[.slice (some ⟨blk, off, none⟩) d.size cap, .func (.func 13) #[] #[]] w fun e w' => e = .returned (.tuple #[]) ∧ ∃ n os, w' = sortWorldK encQ 4 w blk off n (srt d.toList).toArray os
theorem sort_any (hS : SortsQ) (b off n c : Nat) (l : List Q) (w : World) (hn : n ≤ 1000) (hl : l.length = n) (ha : Qs w (some ⟨b, off, none⟩) l) :
    Calls Try.prog 16 #[.slice (some ⟨b, off, none⟩) n c] w fun e w' => ∃ g cap, e = .returned (.slice (some ⟨g, 0, none⟩) n cap) ∧ HoldsK encQ 4 w' g 0 (srt l).toArray ∧ w.heap.size ≤ g ∧ g < w'.heap.size ∧ Below w.heap.size w w' := by
  have HC := Lib.hid (clone_any b off n c l w hn hl ha)
  have HL := Lib.hid hl
  clear ha hl
  go_enter Try.func16, Try.ntmps16
  go_wp2_with fail
  refine HC.out.mono ?_
  rintro e w1 ⟨g, cap, rfl, ho, hB⟩
  have hg := World.ownsRow.lt ho g rfl
  have hH := ho.holds
  have hs := hS g 0 cap l.toArray w1 hH hg.2 (by have := HL.out; simp; omega)
  rw [show l.toArray.size = n by simp [HL.out]] at hs
  have HS := Lib.hid hs
  have HH := Lib.hid hH
  clear hs hH ho
  go_wp2_with fail
  refine HS.out.mono ?_
  rintro e w2 ⟨rfl, q, os, rfl⟩
  have h1 := holdsK_sortWorldK encQ 4 w1 g 0 q l.toArray (srt l).toArray os hg.2 HH.out (by simp [srt_length])
  have h2 : g < (sortWorldK encQ 4 w1 g 0 q (srt l).toArray os).heap.size := lt_sortWorldK encQ 4 w1 g 0 q _ os hg.2
  have h3 : Below w.heap.size w (sortWorldK encQ 4 w1 g 0 q (srt l).toArray os) := by
    unfold sortWorldK
    exact below_grown (Lib.below_putRow hB hg.1) (by simp [putRowK, putRow, mapBlock, Sort.ahead]; exact hB.size) ⟨0, os, rfl⟩
  simp only [List.toList_toArray]
  generalize sortWorldK encQ 4 w1 g 0 q (srt l).toArray os = w3 at *
  have HF := Lib.hid (And.intro h1 (And.intro hg.1 (And.intro h2 h3)))
  clear h1 h2 h3 hg
  go_wp2_with fail
  go_ret
  exact ⟨g, cap, rfl, HF.out⟩
end Go.Proofs.Ytfennglfmngeiaa.St
