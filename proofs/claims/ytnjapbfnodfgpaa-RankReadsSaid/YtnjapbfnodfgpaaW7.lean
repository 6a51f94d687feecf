/- The walk of Int. -/
import Derived.Test.YtnjapbfnodfgpaaW6
import Derived.Laws.DeepNot64
namespace Go.Proofs.Ytnjapbfnodfgpaa.Rk
open Go Go.RowKit
theorem not_neg (m : Nat) (h : m < 9223372036854775808) : bits .xor .i64 (-1) (-1 - (m : Int)) = (m : Int) := by
  show IntKind.i64.wrap ((BitVec.ofInt 64 (-1) ^^^ BitVec.ofInt 64 (-1 - (m : Int))).toNat : Int) = _
  have h1 : BitVec.ofInt 64 (-1) = BitVec.allOnes 64 := by decide
  rw [h1, BitVec.allOnes_xor, BitVec.toNat_not, BitVec.toNat_ofInt]
  simp [IntKind.wrap, IntKind.bits, IntKind.signed]
  omega
theorem wrap_u64 (n : Nat) (h : n < 9223372036854775808) : IntKind.u64.wrap (n : Int) = (n : Int) := by
  simp [IntKind.wrap, IntKind.bits, IntKind.signed]
  omega
theorem tn_length (l : List Int) : (tn l).length = l.length := by simp [tn]
theorem turned_any (ao : Option Addr) (n c : Nat) (l : List Int) (w : World) (hn : n ≤ 140737488351232) (hl : l.length = n) (ha : Rd w ao l) (hb : ∀ x ∈ l, 0 ≤ x ∧ x ≤ 255) :
    Calls Try.prog 29 #[.slice ao n c] w fun e w' => ∃ g cc, e = .returned (.slice (some ⟨g, 0, none⟩) n cc) ∧ w'.ownsRow w.heap.size 5 1 (.slice (some ⟨g, 0, none⟩) n cc) n (bs (tn l)) ∧ Below w.heap.size w w' := by
  subst hl
  by_cases h : l = []
  · subst h
    exact turned_none ao c w
  · obtain ⟨a, rfl, h1, h2⟩ := ha.here h
    exact turned_some a _ c l w hn rfl h1 h2 hb
/-- The end of both ways: one byte, and bytes behind it. -/
theorem intC_pos (m : Nat) : intC (m : Int) = (16 + (len256 m : Int)) :: dig m := by
  unfold intC
  rw [if_pos (by omega), Int.toNat_natCast]
theorem intC_neg (m : Nat) : intC (-1 - (m : Int)) = (15 - (len256 m : Int)) :: tn (dig m) := by
  unfold intC tn
  rw [if_neg (by omega), show (-1 - (-1 - (m : Int))).toNat = m by omega]
set_option maxHeartbeats 1000000 in
theorem int_pos (n : Nat) (hn : n < 9223372036854775808) (w : World) :
    Calls Try.prog 12 #[.int .i64 n] w fun e w' => ∃ v, e = .returned v ∧ Own w' w.heap.size v (intC n) ∧ Below w.heap.size w w' := by
  obtain ⟨i0, hi, hz0, hz1, hz2⟩ := info_parts info5
  have hk8 := len256_le n (by omega)
  have hW := write_any n (by omega) w
  have hL := dig_length n
  rw [intC_pos]
  unfold Own
  generalize len256 n = k at *
  generalize dig n = D at *
  have HL := Lib.hid hL
  clear hL
  have HW := Lib.hid hW
  clear hW
  go_enter Try.func12, Try.ntmps12
  go_wp2_with fail
  refine HW.out.mono ?_
  clear HW
  rintro e w1 ⟨g, rfl, hown, hB⟩
  have hO2 := Lib.hid (World.ownsRow_lit (base := w.heap.size) (e := 5) (size := 1) w1 #[.int .u8 (16 + (k : Int))] 1 hB.size (by unfold maxLen; omega) rfl)
  have hc : ∀ j u, (bs D)[j]? = some u → (w1.alloc (.cells #[.int .u8 (16 + (k : Int))] 5)).cell? ((⟨g, 0, none⟩ : Addr).add j) = some u := by
    intro j u hu
    have hj : j < D.length := by
      have := (List.getElem?_eq_some_iff.1 hu).1
      rwa [bs_length] at this
    rw [addr0, (hown.alloc (.cells #[.int .u8 (16 + (k : Int))] 5)).cellAt j (by rw [← HL.out]; omega), hu]
  have Hc := Lib.hid hc
  have hbl := Lib.hid ((bs_length D).trans (HL.out.trans (Nat.mul_one k).symm))
  clear hc hown
  have hBs := hB.size
  go_wp2_with (at_builtin; refine wpList_append_own _ rfl (.tmp 14) (.tmp 15) 23 rfl w.heap.size 5 i0 _ 1 1 Try.underlying23 hi hz0 hz1 hz2 rfl (by decide) _ 1 [.int .u8 (16 + (k : Int))] rfl hO2.out ⟨g, 0, none⟩ k k (bs D) rfl hbl.out Hc.out (bs_one D) (by unfold maxLen; omega) (by omega) (by simp; omega) ?_; intro v3 w3 hown3 hgrow3 _)
  have hB3 : Below w.heap.size w w3 := (hB.alloc hB.size _).grown hgrow3 (by simp; omega) (fun k hk => (hO2.out.lt k hk).1)
  clear hgrow3 hO2
  go_ret
  exact ⟨v3, rfl, by rw [HL.out, Nat.add_comm]; exact hown3, hB3⟩
set_option maxHeartbeats 1000000 in
theorem int_neg (n : Nat) (hn : n < 9223372036854775808) (w : World) :
    Calls Try.prog 12 #[.int .i64 (-1 - (n : Int))] w fun e w' => ∃ v, e = .returned v ∧ Own w' w.heap.size v (intC (-1 - (n : Int))) ∧ Below w.heap.size w w' := by
  obtain ⟨i0, hi, hz0, hz1, hz2⟩ := info_parts info5
  have hk8 := len256_le n (by omega)
  have hW := write_any n (by omega) w
  have hL := dig_length n
  have hby := dig_byte n
  have hx := Lib.hid (not_neg n hn)
  rw [intC_neg]
  unfold Own
  generalize len256 n = k at *
  generalize dig n = D at *
  have HL := Lib.hid hL
  have Hby := Lib.hid hby
  clear hL hby
  have HW := Lib.hid hW
  clear hW
  go_enter Try.func12, Try.ntmps12
  go_wp2_with fail
  rw [hx.out, wrap_u64 n hn]
  clear hx
  refine HW.out.mono ?_
  clear HW
  rintro e w1 ⟨g, rfl, hown, hB⟩
  have hO2 := Lib.hid (World.ownsRow_lit (base := w.heap.size) (e := 5) (size := 1) w1 #[.int .u8 (15 - (k : Int))] 1 hB.size (by unfold maxLen; omega) rfl)
  have hrd : Rd (w1.alloc (.cells #[.int .u8 (15 - (k : Int))] 5)) (some ⟨g, 0, none⟩) D := by
    have h1 := hown.alloc (.cells #[.int .u8 (15 - (k : Int))] 5)
    intro j hj
    refine ⟨_, rfl, ?_, ?_⟩
    · have := (hown.lt g rfl).2
      simp
      omega
    · rw [addr0, h1.cellAt j (by rw [← HL.out]; omega), bs_get hj]
  have hT := turned_any (some ⟨g, 0, none⟩) k k D _ (by omega) HL.out hrd Hby.out
  have HT := Lib.hid hT
  clear hT hrd hown
  have hBs := hB.size
  go_wp2_with fail
  refine HT.out.mono ?_
  clear HT
  rintro e w2 ⟨g2, c2, rfl, hown2, hB2⟩
  have z2 := hB2.size
  simp only [World.size_alloc] at z2
  have hO3 := Lib.hid (hO2.out.kept (grown_of_below hB2) (own_or _))
  have hB4 : Below w.heap.size w w2 := (hB.alloc hB.size _).trans (hB2.mono (by simp; omega))
  have hc : ∀ j u, (bs (tn D))[j]? = some u → w2.cell? ((⟨g2, 0, none⟩ : Addr).add j) = some u := by
    intro j u hu
    have hj : j < (tn D).length := by
      have := (List.getElem?_eq_some_iff.1 hu).1
      rwa [bs_length] at this
    rw [tn_length, HL.out] at hj
    rw [addr0, hown2.cellAt j (by omega), hu]
  have Hc := Lib.hid hc
  have hbl := Lib.hid ((bs_length (tn D)).trans ((tn_length D).trans (HL.out.trans (Nat.mul_one k).symm)))
  clear hc hown2 hB2 hO2
  go_wp2_with (at_builtin; refine wpList_append_own _ rfl (.tmp 25) (.tmp 27) 23 rfl w.heap.size 5 i0 _ 1 1 Try.underlying23 hi hz0 hz1 hz2 rfl (by decide) _ 1 [.int .u8 (15 - (k : Int))] rfl hO3.out ⟨g2, 0, none⟩ k c2 (bs (tn D)) rfl hbl.out Hc.out (bs_one (tn D)) (by unfold maxLen; omega) (by omega) (by omega) ?_; intro v3 w3 hown3 hgrow3 _)
  have hB3 : Below w.heap.size w w3 := hB4.grown hgrow3 (by omega) (fun k hk => (hO3.out.lt k hk).1)
  clear hgrow3 hO3
  go_ret
  exact ⟨v3, rfl, by rw [tn_length, HL.out, Nat.add_comm]; exact hown3, hB3⟩
/-- Int: the code of a number with a sign. -/
theorem int_any (n : Int) (h0 : -9223372036854775808 ≤ n) (h1 : n ≤ 9223372036854775807) (w : World) :
    Calls Try.prog 12 #[.int .i64 n] w fun e w' => ∃ v, e = .returned v ∧ Own w' w.heap.size v (intC n) ∧ Below w.heap.size w w' := by
  by_cases h : 0 ≤ n
  · have := int_pos n.toNat (by omega) w
    rwa [show ((n.toNat : Nat) : Int) = n by omega] at this
  · have := int_neg (-1 - n).toNat (by omega) w
    rwa [show -1 - (((-1 - n).toNat : Nat) : Int) = n by omega] at this
end Go.Proofs.Ytnjapbfnodfgpaa.Rk
