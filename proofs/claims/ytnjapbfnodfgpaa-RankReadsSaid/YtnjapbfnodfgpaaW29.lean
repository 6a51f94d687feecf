/- The walk of the document's ReadUint. -/
import Derived.Test.YtnjapbfnodfgpaaW28
namespace Go.Proofs.Ytnjapbfnodfgpaa.Rk
open Go Go.RowKit
theorem duR_cons (x : Nat) (l : List Int) : duR ((x : Int) :: l) = if 8 < x ∨ l.length < x then none else
    if fr ((x : Int) :: l) (uintC (val (l.take x)).toNat) then some (val (l.take x), ((uintC (val (l.take x)).toNat).length : Int)) else none := by
  show (if _ then _ else _) = _
  rw [Int.toNat_natCast]
  by_cases h : 8 < x ∨ l.length < x
  · rw [if_pos (show (8 : Int) < x ∨ (l.length : Int) < x by omega), if_pos h]
  · rw [if_neg (show ¬ ((8 : Int) < x ∨ (l.length : Int) < x) by omega), if_neg h]
set_option maxHeartbeats 1000000 in
theorem du_none (ao : Option Addr) (c : Nat) (w : World) :
    Calls Try.prog 23 #[.slice ao 0 c] w fun e w' => e = .returned (tri .u64 none) ∧ Below w.heap.size w w' := by
  go_enter Try.func23, Try.ntmps23
  go_wp2
  go_ret3
  exact ⟨rfl, Below.refl _ _⟩
set_option maxHeartbeats 1000000 in
theorem du_long (a : Addr) (n c x : Nat) (w : World) (hn : n ≤ maxLen) (hx : x ≤ 255) (h8 : 8 < x) (c0 : w.cell? a = some (.int .u8 x)) :
    Calls Try.prog 23 #[.slice (some a) (n + 1) c] w fun e w' => e = .returned (tri .u64 none) ∧ Below w.heap.size w w' := by
  unfold maxLen at hn
  have hn1 : ((n : Int) + 1 == 0) = false := by rw [beq_eq_false_iff_ne]; omega
  go_enter Try.func23, Try.ntmps23
  go_wp2
  go_ret3
  exact ⟨rfl, Below.refl _ _⟩
set_option maxHeartbeats 1000000 in
theorem du_short (a : Addr) (n c x : Nat) (w : World) (hn : n ≤ maxLen) (h8 : x ≤ 8) (hnx : n < x) (c0 : w.cell? a = some (.int .u8 x)) :
    Calls Try.prog 23 #[.slice (some a) (n + 1) c] w fun e w' => e = .returned (tri .u64 none) ∧ Below w.heap.size w w' := by
  unfold maxLen at hn
  have hn1 : ((n : Int) + 1 == 0) = false := by rw [beq_eq_false_iff_ne]; omega
  go_enter Try.func23, Try.ntmps23
  go_wp2
  go_ret3
  exact ⟨rfl, Below.refl _ _⟩
set_option maxHeartbeats 3000000 in
theorem du_some (a : Addr) (n c x : Nat) (l : List Int) (w : World) (hnc : n + 1 ≤ c) (hcm : c ≤ maxLen) (hc1 : ¬ c = 1) (hl : l.length = n) (h8 : x ≤ 8) (hxn : x ≤ n)
    (ha0 : a.block < w.heap.size) (hR : Rd w (some a) ((x : Int) :: l)) (c0 : w.cell? a = some (.int .u8 x)) (hb : ∀ y ∈ l, 0 ≤ y ∧ y ≤ 255) :
    Calls Try.prog 23 #[.slice (some a) (n + 1) c] w fun e w' => e = .returned (tri .u64 (if fr ((x : Int) :: l) (uintC (val (l.take x)).toNat) then some (val (l.take x), ((uintC (val (l.take x)).toNat).length : Int)) else none)) ∧ Below w.heap.size w w' := by
  generalize hr : (if fr ((x : Int) :: l) (uintC (val (l.take x)).toNat) then some (val (l.take x), ((uintC (val (l.take x)).toNat).length : Int)) else none) = r
  have Hr := Lib.hid hr
  clear hr
  have hcm' := hcm
  unfold maxLen at hcm
  have hn1 : ((n : Int) + 1 == 0) = false := by rw [beq_eq_false_iff_ne]; omega
  have hd1 : decide ((8 : Int) < (x : Int)) = false := decide_eq_false (by omega)
  have hd2 : decide ((n : Int) + 1 < 1 + (x : Int)) = false := decide_eq_false (by omega)
  have hlt : (l.take x).length = x := by rw [List.length_take]; omega
  have hvl := val_lt (l.take x) (by omega) (fun y hy => hb y (List.mem_of_mem_take hy))
  have HU := Lib.hid (refUintS (val (l.take x)) hvl.1 (by omega))
  have ul := uintC_len (val (l.take x)).toNat (by omega)
  have hF := fun (w : World) (g cu : Nat) (hA : Rd w (some a) ((x : Int) :: l)) (hB : Rd w (some ⟨g, 0, none⟩) (uintC (val (l.take x)).toNat)) =>
    front_any (some a) (some ⟨g, 0, none⟩) (n + 1) c (uintC (val (l.take x)).toNat).length cu ((x : Int) :: l) (uintC (val (l.take x)).toNat) w hnc hcm' (by simp [hl]) rfl (le_max ul (by decide)) hA hB
  have hT := hR.tail
  have HTc := Lib.hid (fun k (hk : k < x) => by
    obtain ⟨a', h1, h2, h3⟩ := hT k (by omega)
    cases h1
    exact h3)
  have Hb := Lib.hid hb
  have HL := Lib.hid hl
  have HR := Lib.hid hR
  have HF := Lib.hid hF
  clear hF hT hR hb hl hcm' hlt hvl
  go_enter Try.func23, Try.ntmps23
  go_wp2
  go_loopw [5, 35] (fun v i wr => ∃ j : Nat, j ≤ x ∧ i = .int .i64 j ∧ v = .int .u64 (val (l.take j)) ∧ Below w.heap.size w wr) (fun _ i _ => x - (intOf i).toNat)
  case atStart => exact ⟨0, Nat.zero_le _, rfl, rfl, Below.refl _ _⟩
  case round =>
    obtain ⟨j, hj, rfl, rfl, hB⟩ := hrel
    have hv := val_bound l Hb.out j (by rw [HL.out]; omega)
    by_cases hjx : j < x
    · have c1 := (hB.cell (p := (⟨a.block, a.off + 1, none⟩ : Addr).add j) (by rw [add_block]; exact ha0)).trans (HTc.out j hjx)
      have hx := Hb.out _ (getD_mem (by rw [HL.out]; omega : j < l.length))
      have Hn := Lib.hid (val_take (by rw [HL.out]; omega : j < l.length))
      have hv2 : val (l.take j) < 72057594037927936 := Int.lt_of_lt_of_le hv.2 (by
        have : (256 : Int) ^ j ≤ 256 ^ 7 := by
          rw [show (256 : Int) = ((256 : Nat) : Int) from rfl, ← Int.natCast_pow, ← Int.natCast_pow]
          exact Int.ofNat_le.2 (Nat.pow_le_pow_right (by decide) (by omega))
        simpa using this)
      have hv1 := hv.1
      clear hv
      have e1 : (⟨a.block, a.off + 1, none⟩ : Addr).add j = ⟨a.block, a.off + 1 + j, none⟩ := by unfold Addr.add; by_cases h : j = 0 <;> simp [h]
      rw [e1] at c1
      clear e1
      generalize l.getD j 0 = y at *
      generalize val (l.take j) = V at *
      go_wp2
      go_roundw
      case rel => exact ⟨j + 1, by omega, by go_num, by rw [Hn.out]; congr 1; omega, hB⟩
      case measure => simp [intOf]; omega
    · obtain rfl : j = x := by omega
      clear hv
      generalize val (l.take j) = V at *
      generalize hU : uintC V.toNat = U at *
      go_wp2_with fail
      refine (HU.out _).mono ?_
      rintro e w2 ⟨g, cu, rfl, ⟨_, ru⟩, hB2⟩
      have hb2 := hB.trans (hB2.mono hB.size)
      have H32 := Lib.hid (HF.out w2 g cu (HR.out.on hb2 (Nat.le_refl _)) ru)
      clear hB2 hB ru
      cases hf : fr ((j : Int) :: l) U with
      | false =>
        rw [hf] at H32
        have Hf := Lib.hid hf
        clear hf
        go_wp2_with fail
        refine H32.out.mono ?_
        rintro e w3 ⟨rfl, hB3⟩
        go_wp2_with fail
        go_ret3
        exact ⟨by rw [← Hr.out, Hf.out]; rfl, hb2.trans (hB3.mono hb2.size)⟩
      | true =>
        rw [hf] at H32
        have Hf := Lib.hid hf
        clear hf
        go_wp2_with fail
        refine H32.out.mono ?_
        rintro e w3 ⟨rfl, hB3⟩
        have hb3 := hb2.trans (hB3.mono hb2.size)
        clear hB3 H32
        go_wp2_with fail
        refine (HU.out _).mono ?_
        rintro e w4 ⟨g4, c4, rfl, _, hB4⟩
        go_wp2_with fail
        go_ret3
        exact ⟨by rw [← Hr.out, Hf.out]; rfl, hb3.trans (hB4.mono hb3.size)⟩
set_option maxHeartbeats 3000000 in
theorem du_one (a : Addr) (w : World) (ha0 : a.block < w.heap.size) (hR : Rd w (some a) [0]) (c0 : w.cell? a = some (.int .u8 0)) :
    Calls Try.prog 23 #[.slice (some a) 1 1] w fun e w' => e = .returned (tri .u64 (some (0, 1))) ∧ Below w.heap.size w w' := by
  have HU := Lib.hid (refUintS 0 (by decide) (by decide))
  have hF := fun (w : World) (g cu : Nat) (hA : Rd w (some a) [0]) (hB : Rd w (some ⟨g, 0, none⟩) (uintC 0)) =>
    front_any (some a) (some ⟨g, 0, none⟩) 1 1 1 cu [0] (uintC 0) w (Nat.le_refl _) (by unfold maxLen; omega) rfl rfl (by unfold maxLen; decide) hA hB
  have HF := Lib.hid hF
  have HR := Lib.hid hR
  clear hF hR
  go_enter Try.func23, Try.ntmps23
  go_wp2
  refine wp_loop_rounds 1 ?_
  rw [rounds_succ]
  go_wp2_with fail
  refine (HU.out _).mono ?_
  rintro e w2 ⟨g, cu, rfl, ⟨_, ru⟩, hB2⟩
  have H32 := Lib.hid (HF.out w2 g cu (HR.out.on hB2 (Nat.le_refl _)) ru)
  rw [show fr [0] (uintC 0) = true from rfl] at H32
  go_wp2_with fail
  refine H32.out.mono ?_
  rintro e w3 ⟨rfl, hB3⟩
  have hb3 := hB2.trans (hB3.mono hB2.size)
  clear hB3 hB2 H32
  go_wp2_with fail
  refine (HU.out _).mono ?_
  rintro e w4 ⟨g4, c4, rfl, _, hB4⟩
  go_wp2_with fail
  go_ret3
  exact ⟨rfl, hb3.trans (hB4.mono hb3.size)⟩
/-- The document's ReadUint: the same answer. -/
theorem du_any (ao : Option Addr) (n c : Nat) (l : List Int) (w : World) (hnc : n ≤ c) (hcm : c ≤ maxLen) (hl : l.length = n) (ha : Rd w ao l) (hb : ∀ y ∈ l, 0 ≤ y ∧ y ≤ 255) :
    Calls Try.prog 23 #[.slice ao n c] w fun e w' => e = .returned (tri .u64 (ruR l)) ∧ Below w.heap.size w w' := by
  rw [← duR_eq l hb]
  subst hl
  cases l with
  | nil => exact du_none ao c w
  | cons y l =>
    obtain ⟨a, rfl, a1, a2⟩ := ha.here (by simp)
    have hy := hb y (by simp)
    obtain ⟨x, rfl⟩ : ∃ x : Nat, y = x := ⟨y.toNat, by omega⟩
    have c0 := a2 0 (by simp)
    rw [add_zero, List.getD_cons_zero] at c0
    rw [List.length_cons] at hnc ⊢
    have hb' : ∀ z ∈ l, 0 ≤ z ∧ z ≤ 255 := fun z hz => hb z (by simp [hz])
    rw [duR_cons]
    by_cases h8 : 8 < x
    · rw [if_pos (.inl h8)]
      exact du_long a l.length c x w (Nat.le_trans (by omega) hcm) (by omega) h8 c0
    by_cases hs : l.length < x
    · rw [if_pos (.inr hs)]
      exact du_short a l.length c x w (Nat.le_trans (by omega) hcm) (by omega) hs c0
    rw [if_neg (by omega)]
    by_cases hc1 : c = 1
    · subst hc1
      obtain rfl : l = [] := List.length_eq_zero_iff.1 (by omega)
      obtain rfl : x = 0 := by simpa using hs
      exact du_one a w a1 ha c0
    · exact du_some a l.length c x l w hnc hcm hc1 rfl (by omega) (by omega) a1 ha c0 hb'
end Go.Proofs.Ytnjapbfnodfgpaa.Rk
