/- Eldest, walked; the lists that the law makes. -/
import Derived.Test.YtfennglfmngeiaaW7
import Derived.Deep.AppendLies
namespace Go.Proofs.Ytfennglfmngeiaa.St
open Go Go.RowKit Go.Sort
def aggQ (x : Q) : Value := .agg #[.int .u64 x.n, .int .u8 x.node, .int .u32 x.inc, .int .u32 x.seq]
theorem eldest_none (ao : Option Addr) (c : Nat) (w : World) :
    Calls Try.prog 17 #[.slice ao 0 c] w fun e w' => e = .returned (.tuple #[aggQ q0, .bool false]) ∧ Below w.heap.size w w' := by
  go_enter Try.func17, Try.ntmps17
  go_wp2_with fail
  exact bodyPost_ret (v := .tuple #[aggQ q0, .bool false]) (by simp [results, Try.results17, go_sem, aggQ, q0]) rfl ⟨rfl, (Below.refl _ _).alloc (Nat.le_refl _) _⟩
theorem eldest_some (ao : Option Addr) (n c : Nat) (l : List Q) (w : World) (hn : n ≤ maxLen) (hl : l.length = n) (h0 : 0 < n) (ha : Qs w ao l) :
    Calls Try.prog 17 #[.slice ao n c] w fun e w' => e = .returned (.tuple #[aggQ (minQ l), .bool true]) ∧ Below w.heap.size w w' := by
  have hm := fun W h => min_any ao n c l W hn hl h0 h
  have HQ := Lib.hid ((ha.on ((Below.refl w.heap.size w).alloc (Nat.le_refl _) (.cells #[.int .u64 0, .int .u8 0, .int .u32 0, .int .u32 0] 39)) (Nat.le_refl _)))
  generalize minQ l = m at *
  have HM := Lib.hid hm
  clear hm
  have hne : ((n : Int) == 0) = false := by rw [beq_eq_false_iff_ne]; omega
  have HN := Lib.hid hn
  clear hn ha hl
  go_enter Try.func17, Try.ntmps17
  go_wp2_with fail
  refine (HM.out _ HQ.out).mono ?_
  rintro e w1 ⟨rfl, hB⟩
  have hz : w.heap.size < w1.heap.size := Nat.lt_of_lt_of_le (by simp) hB.size
  have hb := (Box4.new w q0 39).on hB (by simp)
  have HB := Lib.hid (below_put4 (((Below.refl w.heap.size w).alloc (Nat.le_refl _) (.cells #[.int .u64 0, .int .u8 0, .int .u32 0, .int .u32 0] 39)).trans (hB.mono (by simp))) (Nat.le_refl _) m)
  have HZ := Lib.hid (hb.put m)
  obtain ⟨⟨z0, z1, z2, z3⟩, zf, zs⟩ := hb
  clear hB
  unfold encQ
  go_wp2_with fail
  obtain ⟨⟨y0, y1, y2, y3⟩, _, _⟩ := HZ.out
  unfold put4 at y0 y1 y2 y3
  exact bodyPost_ret (v := .tuple #[aggQ m, .bool true]) (by simp [results, Try.results17, go_sem, aggQ, y0, y1, y2, y3]) rfl ⟨rfl, HB.out⟩
end Go.Proofs.Ytfennglfmngeiaa.St
