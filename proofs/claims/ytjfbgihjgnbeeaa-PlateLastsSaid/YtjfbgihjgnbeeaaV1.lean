/- plate: the law on an armed plate, walked. -/
import Derived.Test.YtjfbgihjgnbeeaaW9
import Derived.Deep.CutRange
import Derived.Outline
namespace Go.Proofs.Ytjfbgihjgnbeeaa.Pl
open Go Go.RowKit
/-- From an address on these values stand, each in one cell. -/
def Rv (w : World) (ao : Option Addr) (f : Nat → Value) (n : Nat) : Prop := ∀ k, k < n → ∃ a, ao = some a ∧ a.block < w.heap.size ∧ w.cell? (a.add k) = some (f k)
theorem add_block (a : Addr) (k : Nat) : (a.add k).block = a.block := by unfold Addr.add; split <;> rfl
theorem Rv.on {w w' : World} {ao : Option Addr} {f : Nat → Value} {n : Nat} (h : Rv w ao f n) {B : Nat} (hb : Below B w w') (hB : w.heap.size ≤ B) : Rv w' ao f n := fun k hk => by
  obtain ⟨a, h1, h2, h3⟩ := h k hk
  exact ⟨a, h1, Nat.lt_of_lt_of_le h2 hb.size, (hb.cell (p := a.add k) (by rw [add_block]; omega)).trans h3⟩
/-- The plate ahead of round i: m operations are left ahead of the one at which the power goes. -/
def ArmI (B b bm m i : Nat) (W : World) : Prop :=
  ∃ (v : Value) (F : Nat → Prop) (nst : Nat) (s : PSt), PlateAt W B F b nst bm v s ∧ s.N = 4 ∧ nst ≤ i ∧ s.op.length ≤ i ∧ ((i ≤ m ∧ s.off = false ∧ s.left = (m : Int) + 1 - i ∧ s.ops = i) ∨ (m < i ∧ s.off = true ∧ s.ops = (m : Int) + 1))
/-- What the operation of round i answers. -/
def armF (m i : Nat) : Int := if i < m then 0 else 11
def ArmC (w : World) (B b bm m i : Nat) (s8 : Value) (W : World) : Prop := s8 = .int .i64 (armF m i) ∧ ArmI B b bm m (i + 1) W ∧ Below w.heap.size w W
theorem armI_flush (B b bm m i : Nat) (W : World) (h : ArmI B b bm m i W) (hi : i < 40) : Calls Try.prog 18 #[.pointer (some ⟨b, 0, none⟩)] W fun e w' => e = .returned (.int .i64 (armF m i)) ∧ ArmI B b bm m (i + 1) w' ∧ Below B W w' := by
  obtain ⟨v, F, nst, s, hP, hN, hn, ho, ⟨h1, h2, h3, h4⟩ | ⟨h1, h2, h3⟩⟩ := h
  · refine (flush_any _ _ _ _ _ _ _ W hP h2 (by omega)).mono ?_
    rintro e w' ⟨rfl, v', F', hP', hF', hT⟩
    have ea : An s.left = armF m i := by simp only [An, armF, h3]; split <;> split <;> omega
    refine ⟨by rw [ea], ?_, hT.below hP.base hP.low⟩
    by_cases hl : s.left = 1
    · have e1 : flushed s = { s with off := true, left := 0, ops := s.ops + 1 } := by simp [flushed, hl]
      rw [e1] at hP'
      exact ⟨v', F', nst, _, hP', hN, by omega, by simp only; omega, .inr ⟨by omega, rfl, by simp only; omega⟩⟩
    · have e1 : flushed s = { s with op := [], left := Lf s.left, ops := s.ops + 1 } := by simp [flushed, hl]
      rw [e1] at hP'
      have e2 : Lf s.left = s.left - 1 := by simp [Lf]; omega
      exact ⟨v', F', nst, _, hP', hN, by omega, by simp, .inl ⟨by omega, h2, by simp only [e2]; omega, by simp only; omega⟩⟩
  · have hb := hP.blk
    rw [h2] at hb
    refine (flush_down b W (cells6 hb).2.2.2.1).mono ?_
    rintro e w' ⟨rfl, rfl⟩
    have ea : armF m i = 11 := by simp only [armF]; split <;> omega
    exact ⟨by rw [ea], ⟨v, F, nst, s, hP, hN, by omega, by omega, .inr ⟨by omega, h2, h3⟩⟩, Below.refl _ _⟩
theorem armI_write (B b bm m i : Nat) (W : World) (h : ArmI B b bm m i W) (hi : i < 40) (p : Int) (p0 : 0 ≤ p) (p1 : p < 4) (x : Int) (x0 : 0 ≤ x) (x1 : x ≤ 255) : Calls Try.prog 16 #[.pointer (some ⟨b, 0, none⟩), .int .i64 p, .slice (some ⟨W.heap.size, 0, none⟩) 1 1] (W.alloc (.cells #[.int .u8 x] 5)) fun e w' => e = .returned (.int .i64 (armF m i)) ∧ ArmI B b bm m (i + 1) w' ∧ Below B W w' := by
  obtain ⟨v, F, nst, s, hP0, hN, hn, ho, hs⟩ := h
  have hP := hP0.alloc (.cells #[.int .u8 x] 5)
  have hB := (Below.refl B W).alloc hP0.base (.cells #[.int .u8 x] 5)
  rcases hs with ⟨h1, h2, h3, h4⟩ | ⟨h1, h2, h3⟩
  · refine (write_ok _ _ _ _ _ _ _ p (some ⟨W.heap.size, 0, none⟩) 1 1 [.int .u8 x] _ hP h2 p0 (by omega) rfl (by decide) (one_src W x x0 x1) (by unfold maxLen; omega) (by omega) (by omega)).mono ?_
    rintro e w' ⟨rfl, v', F', hP', hF', hT⟩
    have ea : An s.left = armF m i := by simp only [An, armF, h3]; split <;> split <;> omega
    refine ⟨by rw [ea], ?_, hB.trans (hT.below hP.base hP.low)⟩
    by_cases hl : s.left = 1
    · exact ⟨v', F', nst + 1, _, hP', hN, by omega, by simp [wrote]; omega, .inr ⟨by omega, by simp [wrote, Of, hl], by simp only [wrote]; omega⟩⟩
    · have e2 : Lf s.left = s.left - 1 := by simp [Lf]; omega
      exact ⟨v', F', nst + 1, _, hP', hN, by omega, by simp [wrote]; omega, .inl ⟨by omega, by simp [wrote, Of, hl], by simp only [wrote, e2]; omega, by simp only [wrote]; omega⟩⟩
  · have hb := hP.blk
    rw [h2] at hb
    refine (write_down b s.N p _ 1 1 _ (cells6 hb).1 (cells6 hb).2.2.2.1 p0 (by omega) (by decide)).mono ?_
    rintro e w' ⟨rfl, rfl⟩
    have ea : armF m i = 11 := by simp only [armF]; split <;> omega
    exact ⟨by rw [ea], ⟨v, F, nst, s, hP, hN, by omega, by omega, .inr ⟨by omega, h2, h3⟩⟩, hB⟩
theorem armI_ops (B b bm m i : Nat) (W : World) (h : ArmI B b bm m (i + 1) W) : Calls Try.prog 23 #[.pointer (some ⟨b, 0, none⟩)] W fun e w' => e = .returned (.int .i64 (if (i : Int) + 1 < 1 + (m : Int) then (i : Int) + 1 else 1 + m)) ∧ W = w' := by
  obtain ⟨v, F, nst, s, hP, hN, hn, ho, hs⟩ := h
  have e : s.ops = (if (i : Int) + 1 < 1 + (m : Int) then (i : Int) + 1 else 1 + m) := by
    rcases hs with ⟨h1, h2, h3, h4⟩ | ⟨h1, h2, h3⟩ <;> split <;> omega
  rw [← e]
  exact ops_at b s.ops W (cells6 hP.blk).2.2.2.2.2
theorem armI_ops1 (B b bm m i : Nat) (W : World) (h : ArmI B b bm m (i + 1) W) (hi : i < m) : Calls Try.prog 23 #[.pointer (some ⟨b, 0, none⟩)] W fun e w' => e = .returned (.int .i64 ((i : Int) + 1)) ∧ W = w' := by
  have := armI_ops B b bm m i W h
  rwa [if_pos (by omega)] at this
theorem armI_ops2 (B b bm m i : Nat) (W : World) (h : ArmI B b bm m (i + 1) W) (hi : m ≤ i) : Calls Try.prog 23 #[.pointer (some ⟨b, 0, none⟩)] W fun e w' => e = .returned (.int .i64 (1 + (m : Int))) ∧ W = w' := by
  have := armI_ops B b bm m i W h
  rwa [if_neg (by omega)] at this
theorem armF_lt {m i : Nat} (h : i < m) : armF m i = 0 := by simp [armF, h]
theorem armF_ge {m i : Nat} (h : m ≤ i) : armF m i = 11 := by simp [armF]; omega
end Go.Proofs.Ytjfbgihjgnbeeaa.Pl
