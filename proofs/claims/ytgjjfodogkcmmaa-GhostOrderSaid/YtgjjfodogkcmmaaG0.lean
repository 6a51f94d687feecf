/- The plain mathematics of values: which are in form, their order. -/
import Derived.WalkKit
import Derived.BigQuiet
import Derived.Deep.QuietTactic
import Derived.Deep.RegionWith
import Derived.Lib.Hide
namespace Go.Proofs.Ytgjjfodogkcmmaa.Vl
open Go Go.RowKit

def letB (c : Int) : Bool := decide ((97 ≤ c ∧ c ≤ 122) ∨ (48 ≤ c ∧ c ≤ 57) ∨ c = 46 ∨ c = 45)
def lettersB (l : List UInt8) : Bool := l.all fun c => letB c.toNat
def formB (k n : Int) (l : List UInt8) : Bool :=
  decide ((k = 0 ∧ n = 0 ∧ l = []) ∨ (k = 1 ∧ l = []) ∨ (k = 2 ∧ n = 0 ∧ l.length ≤ 8 ∧ lettersB l = true))

theorem letters_take_succ (s : ByteArray) (k : Nat) (h : k < s.size) : s.data.toList.take (k + 1) = s.data.toList.take k ++ [s[k]] := by
  rw [List.take_succ_eq_append_getElem (by simpa using h)]; rfl
theorem letters_snoc (s : ByteArray) (k : Nat) (h : k < s.size) :
    lettersB (s.data.toList.take (k + 1)) = (lettersB (s.data.toList.take k) && letB (s[k].toNat : Int)) := by
  rw [letters_take_succ s k h]; simp [lettersB, List.all_append]
theorem letters_not (s : ByteArray) (k : Nat) (h : k < s.size) (hb : letB (s[k].toNat : Int) = false) : lettersB s.data.toList = false := by
  rw [← List.take_append_drop (k + 1) s.data.toList]
  unfold lettersB
  rw [List.all_append]
  have := letters_snoc s k h
  unfold lettersB at this
  rw [this, hb]; simp
end Go.Proofs.Ytgjjfodogkcmmaa.Vl
