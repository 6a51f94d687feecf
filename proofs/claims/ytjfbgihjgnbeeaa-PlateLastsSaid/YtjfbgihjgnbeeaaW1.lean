/- plate: the small functions, walked. -/
import Derived.Test.YtjfbgihjgnbeeaaRows
import Derived.WalkKit
import Derived.Laws.Tables
import Derived.Lib.Hide
namespace Go.Proofs.Ytjfbgihjgnbeeaa.Pl
open Go Go.RowKit
theorem ret_of {a b : Int} (h : a = b) (k : IntKind) : Ending.returned (.int k a) = .returned (.int k b) := by rw [h]
/-- A block of six cells. -/
theorem cells6 {w : World} {b : Nat} {v0 v1 v2 v3 v4 v5 : Value} {t : TypeId} (h : w.heap[b]? = some (.cells #[v0, v1, v2, v3, v4, v5] t (0, 0))) :
    w.cell? ⟨b, 0, none⟩ = some v0 ∧ w.cell? ⟨b, 1, none⟩ = some v1 ∧ w.cell? ⟨b, 2, none⟩ = some v2 ∧ w.cell? ⟨b, 3, none⟩ = some v3 ∧ w.cell? ⟨b, 4, none⟩ = some v4 ∧ w.cell? ⟨b, 5, none⟩ = some v5 := by
  simp [World.cell?, h]
theorem free6 {w : World} {b i : Nat} {cs : Array Value} {t : TypeId} (h : w.heap[b]? = some (.cells cs t (0, 0))) : w.frozen? ⟨b, i, none⟩ = false := by
  simp [World.frozen?, h]
theorem set_block {w : World} {b i : Nat} {cs : Array Value} {t : TypeId} {v : Value} (h : w.heap[b]? = some (.cells cs t (0, 0))) : (w.setCell ⟨b, i, none⟩ v).heap[b]? = some (.cells (cs.setIfInBounds i v) t (0, 0)) := by
  rw [setCell_eq_setRow w b i cs t (0, 0) v h, setRow_heap w b cs _ t (0, 0) h]
theorem grown_set (w : World) (b i : Nat) (v : Value) : w.grownBy (w.setCell ⟨b, i, none⟩ v) (some b) :=
  ⟨rfl, rfl, rfl, by simp, fun k _ hk => by
    show (w.heap.modify b _)[k]? = _
    rw [Array.getElem?_modify, if_neg (fun e => hk (by rw [e]))]⟩
def An (l : Int) : Int := if l = 1 then 11 else 0
def Lf (l : Int) : Int := if l = 0 then 0 else l - 1
def Of (l : Int) : Bool := decide (l = 1)
theorem ready_nil (w : World) : Calls Try.prog 37 #[.pointer none] w fun e w' => e = .returned (.int .i64 6) ∧ w = w' := by
  go_enter Try.func37, Try.ntmps37
  go_wp2
  go_ret
  exact ⟨rfl, rfl⟩
theorem ready_on (b : Nat) (w : World) (h : w.cell? ⟨b, 3, none⟩ = some (.bool false)) : Calls Try.prog 37 #[.pointer (some ⟨b, 0, none⟩)] w fun e w' => e = .returned (.int .i64 0) ∧ w = w' := by
  go_enter Try.func37, Try.ntmps37
  go_wp2
  go_ret
  exact ⟨rfl, rfl⟩
theorem ready_off (b : Nat) (w : World) (h : w.cell? ⟨b, 3, none⟩ = some (.bool true)) : Calls Try.prog 37 #[.pointer (some ⟨b, 0, none⟩)] w fun e w' => e = .returned (.int .i64 11) ∧ w = w' := by
  go_enter Try.func37, Try.ntmps37
  go_wp2
  go_ret
  exact ⟨rfl, rfl⟩
theorem on_at (b : Nat) (x : Bool) (w : World) (h : w.cell? ⟨b, 3, none⟩ = some (.bool x)) : Calls Try.prog 19 #[.pointer (some ⟨b, 0, none⟩)] w fun e w' => e = .returned (.bool !x) ∧ w = w' := by
  cases x
  · go_enter Try.func19, Try.ntmps19
    go_wp2
    go_ret
    exact ⟨rfl, rfl⟩
  · go_enter Try.func19, Try.ntmps19
    go_wp2
    go_ret
    exact ⟨rfl, rfl⟩
theorem ops_at (b : Nat) (x : Int) (w : World) (h : w.cell? ⟨b, 5, none⟩ = some (.int .i64 x)) : Calls Try.prog 23 #[.pointer (some ⟨b, 0, none⟩)] w fun e w' => e = .returned (.int .i64 x) ∧ w = w' := by
  go_enter Try.func23, Try.ntmps23
  go_wp2
  go_ret
  exact ⟨rfl, rfl⟩
theorem len_at (b : Nat) (x : Int) (w : World) (h : w.cell? ⟨b, 0, none⟩ = some (.int .i64 x)) : Calls Try.prog 32 #[.pointer (some ⟨b, 0, none⟩)] w fun e w' => e = .returned (.int .i64 x) ∧ w = w' := by
  go_enter Try.func32, Try.ntmps32
  go_wp2
  go_ret
  exact ⟨rfl, rfl⟩
theorem has_yes (b : Nat) (N i : Int) (w : World) (h : w.cell? ⟨b, 0, none⟩ = some (.int .i64 N)) (h0 : 0 ≤ i) (h1 : i < N) : Calls Try.prog 36 #[.pointer (some ⟨b, 0, none⟩), .int .i64 i] w fun e w' => e = .returned (.bool true) ∧ w = w' := by
  have d0 : decide (0 ≤ i) = true := by simpa using h0
  have d1 : decide (i < N) = true := by simpa using h1
  go_enter Try.func36, Try.ntmps36
  go_wp2
  go_ret
  exact ⟨rfl, rfl⟩
theorem has_low (b : Nat) (i : Int) (w : World) (h0 : i < 0) : Calls Try.prog 36 #[.pointer (some ⟨b, 0, none⟩), .int .i64 i] w fun e w' => e = .returned (.bool false) ∧ w = w' := by
  have d0 : decide (0 ≤ i) = false := by simpa using h0
  go_enter Try.func36, Try.ntmps36
  go_wp2
  go_ret
  exact ⟨rfl, rfl⟩
theorem has_high (b : Nat) (N i : Int) (w : World) (h : w.cell? ⟨b, 0, none⟩ = some (.int .i64 N)) (h0 : 0 ≤ i) (h1 : N ≤ i) : Calls Try.prog 36 #[.pointer (some ⟨b, 0, none⟩), .int .i64 i] w fun e w' => e = .returned (.bool false) ∧ w = w' := by
  have d0 : decide (0 ≤ i) = true := by simpa using h0
  have d1 : decide (i < N) = false := by simpa using h1
  go_enter Try.func36, Try.ntmps36
  go_wp2
  go_ret
  exact ⟨rfl, rfl⟩
theorem count_any (b : Nat) (v0 v1 v2 : Value) (l o : Int) (w : World) (hb : w.heap[b]? = some (.cells #[v0, v1, v2, .bool false, .int .i64 l, .int .i64 o] 68 (0, 0)))
    (l0 : 0 ≤ l) (l1 : l ≤ 9223372036854775807) (o0 : 0 ≤ o) (o1 : o < 4611686018427387904) :
    Calls Try.prog 39 #[.pointer (some ⟨b, 0, none⟩)] w fun e w' => e = .returned (.int .i64 (An l)) ∧ w'.heap[b]? = some (.cells #[v0, v1, v2, .bool (Of l), .int .i64 (Lf l), .int .i64 (o + 1)] 68 (0, 0)) ∧ w.grownBy w' (some b) := by
  obtain ⟨_, _, _, c3, c4, c5⟩ := cells6 hb
  have f3 := free6 (i := 3) hb
  have f4 := free6 (i := 4) hb
  have f5 := free6 (i := 5) hb
  have HB := Lib.hid hb
  clear hb
  have fin : ∀ w1 w2, w.grownBy w1 (some b) → w1.grownBy w2 (some b) → w.grownBy w2 (some b) := fun _ _ h k => ⟨k.os.trans h.os, k.tape.trans h.tape, k.output.trans h.output, Nat.le_trans h.size k.size, fun i hi hr => (k.block i (Nat.lt_of_lt_of_le hi h.size) hr).trans (h.block i hi hr)⟩
  have FIN := Lib.hid fin
  clear fin
  by_cases h0 : l = 0
  · subst h0
    go_enter Try.func39, Try.ntmps39
    go_wp2
    go_ret
    refine ⟨rfl, ?_, grown_set _ _ _ _⟩
    rw [set_block HB.out]
    rfl
  · have e0 : (l == 0) = false := by simpa using h0
    have el : Lf l = l - 1 := by simp [Lf, h0]
    by_cases h1 : l = 1
    · subst h1
      go_enter Try.func39, Try.ntmps39
      go_wp2
      go_ret
      refine ⟨rfl, ?_, FIN.out _ _ (FIN.out _ _ (grown_set _ _ _ _) (grown_set _ _ _ _)) (grown_set _ _ _ _)⟩
      rw [set_block (set_block (set_block HB.out))]
      rfl
    · have e1 : (l - 1 == 0) = false := by simp; omega
      have p1 : 0 ≤ l - 1 := by omega
      have eo : Of l = false := by simp [Of, h1]
      have ea : An l = 0 := by simp [An, h1]
      rw [ea, eo, el]
      have EL := Lib.hid (And.intro h0 h1)
      clear h0 h1 ea eo el
      go_enter Try.func39, Try.ntmps39
      go_wp2
      go_ret
      refine ⟨rfl, ?_, FIN.out _ _ (FIN.out _ _ (grown_set _ _ _ _) (grown_set _ _ _ _)) (grown_set _ _ _ _)⟩
      rw [set_block (set_block (set_block HB.out))]
      rfl
end Go.Proofs.Ytjfbgihjgnbeeaa.Pl
