/- The walk of the document's ReadInt. -/
import Derived.Test.YtnjapbfnodfgpaaW29
namespace Go.Proofs.Ytnjapbfnodfgpaa.Rk
open Go Go.RowKit
theorem tnl_take {l : List Int} {j : Nat} (h : j < l.length) : tn (l.take (j + 1)) = tn (l.take j) ++ [255 - l.getD j 0] := by
  rw [List.take_succ_eq_append_getElem h, tn_app, List.getD_eq_getElem?_getD, List.getElem?_eq_getElem h]
  rfl
theorem tn_take_comm (l : List Int) (k : Nat) : tn (l.take k) = (tn l).take k := by unfold tn; rw [List.map_take]
theorem dig_iff (D : List Int) (h8 : D.length ≤ 8) (hb : ∀ x ∈ D, 0 ≤ x ∧ x ≤ 255) : (len256 (val D).toNat = D.length ∧ dig (val D).toNat = D) ↔ ¬ (0 < D.length ∧ D.getD 0 0 = 0) := by
  constructor
  · rintro ⟨h1, h2⟩ ⟨h3, h4⟩
    have hv := val_lt D h8 hb
    have := dig_first (val D).toNat (by omega) (by omega)
    rw [h2] at this
    exact this h4
  · exact dig_val D h8 hb
theorem fr_cons (x y : Int) (l q : List Int) : fr (x :: l) (y :: q) = decide (x = y ∧ q.length ≤ l.length ∧ l.take q.length = q) := by
  unfold fr
  rw [List.length_cons, List.length_cons, List.take_succ_cons]
  refine decide_eq_decide.2 ?_
  rw [List.cons.injEq]
  constructor
  · rintro ⟨h1, h2, h3⟩
    exact ⟨h2, by omega, h3⟩
  · rintro ⟨h1, h2, h3⟩
    exact ⟨by omega, h1, h3⟩
theorem fr_up (k : Nat) (l : List Int) (h8 : k ≤ 8) (hk : k ≤ l.length) (hb : ∀ x ∈ l, 0 ≤ x ∧ x ≤ 255) :
    fr (((k + 16 : Nat) : Int) :: l) (intC (val (l.take k))) = decide (¬ (0 < k ∧ l.getD 0 0 = 0)) := by
  have hlt : (l.take k).length = k := by rw [List.length_take]; omega
  have hbt : ∀ y ∈ l.take k, 0 ≤ y ∧ y ≤ 255 := take_byte k hb
  have hv := val_lt (l.take k) (by omega) hbt
  have hi := dig_iff (l.take k) (by omega) hbt
  rw [hlt] at hi
  have e : val (l.take k) = (((val (l.take k)).toNat : Nat) : Int) := by omega
  rw [e, intC_pos, fr_cons]
  refine decide_eq_decide.2 ?_
  have hg : 0 < k → (l.take k).getD 0 0 = l.getD 0 0 := by
    intro h
    rw [List.getD_eq_getElem?_getD, List.getD_eq_getElem?_getD, List.getElem?_take, if_pos h]
  constructor
  · rintro ⟨h1, h2, h3⟩ ⟨h4, h5⟩
    have hk1 : len256 (val (l.take k)).toNat = k := by omega
    rw [dig_length, hk1] at h3
    exact hi.1 ⟨hk1, h3.symm⟩ ⟨h4, by rw [hg h4]; exact h5⟩
  · intro h
    obtain ⟨h1, h2⟩ := hi.2 (fun h' => h ⟨h'.1, by rw [← hg h'.1]; exact h'.2⟩)
    rw [dig_length, h1, h2]
    exact ⟨by omega, hk, rfl⟩
theorem fr_down (x k : Nat) (l : List Int) (hxk : x + k = 15) (h8 : k ≤ 8) (hk : k ≤ l.length) (hb : ∀ x ∈ l, 0 ≤ x ∧ x ≤ 255) :
    fr ((x : Int) :: l) (intC (-1 - val (tn (l.take k)))) = decide (¬ (0 < k ∧ (tn l).getD 0 0 = 0)) := by
  have hlt : (tn (l.take k)).length = k := by rw [tn_length, List.length_take]; omega
  have hbt : ∀ y ∈ tn (l.take k), 0 ≤ y ∧ y ≤ 255 := tn_byte (take_byte k hb)
  have hv := val_lt (tn (l.take k)) (by omega) hbt
  have hi := dig_iff (tn (l.take k)) (by omega) hbt
  rw [hlt] at hi
  have e : val (tn (l.take k)) = (((val (tn (l.take k))).toNat : Nat) : Int) := by omega
  rw [e, intC_neg, fr_cons]
  refine decide_eq_decide.2 ?_
  have hg : 0 < k → (tn (l.take k)).getD 0 0 = (tn l).getD 0 0 := by
    intro h
    rw [tn_take_comm, List.getD_eq_getElem?_getD, List.getD_eq_getElem?_getD, List.getElem?_take, if_pos h]
  constructor
  · rintro ⟨h1, h2, h3⟩ ⟨h4, h5⟩
    have hk1 : len256 (val (tn (l.take k))).toNat = k := by omega
    rw [tn_length, dig_length, hk1] at h3
    exact hi.1 ⟨hk1, ((congrArg tn h3).trans (tn_tn _)).symm⟩ ⟨h4, by rw [hg h4]; exact h5⟩
  · intro h
    obtain ⟨h1, h2⟩ := hi.2 (fun h' => h ⟨h'.1, by rw [← hg h'.1]; exact h'.2⟩)
    rw [tn_length, dig_length, h1, h2, tn_tn]
    exact ⟨by omega, hk, rfl⟩
set_option maxHeartbeats 1000000 in
theorem di_no_up (a : Addr) (n c : Nat) (k : Nat) (hk : k ≤ 239) (w : World) (hn : n ≤ maxLen) (hs : 8 < k ∨ n < k) (c0 : w.cell? a = some (.int .u8 ((k + 16 : Nat) : Int))) :
    Calls Try.prog 24 #[.slice (some a) (n + 1) c] w fun e w' => e = .returned (tri .i64 none) ∧ Below w.heap.size w w' := by
  unfold maxLen at hn
  have hn1 : ((n : Int) + 1 == 0) = false := by rw [beq_eq_false_iff_ne]; omega
  have hx16 : decide ((k : Int) + 16 < 16) = false := decide_eq_false (by omega)
  have hxk1 : ((k : Int) + 16 - 16) = (k : Int) := by omega
  by_cases h8 : 8 < k
  · have hd1 : decide ((8 : Int) < (k : Int)) = true := decide_eq_true (by omega)
    go_enter Try.func24, Try.ntmps24
    go_wp2
    go_ret3
    exact ⟨rfl, Below.refl _ _⟩
  · have hd1 : decide ((8 : Int) < (k : Int)) = false := decide_eq_false (by omega)
    have hd2 : decide ((n : Int) + 1 < 1 + (k : Int)) = true := decide_eq_true (by omega)
    go_enter Try.func24, Try.ntmps24
    go_wp2
    go_ret3
    exact ⟨rfl, Below.refl _ _⟩
set_option maxHeartbeats 4000000 in
theorem di_up (a : Addr) (n c : Nat) (k : Nat) (l : List Int) (r : Option (Int × Int)) (w : World) (hnc : n + 1 ≤ c) (hcm : c ≤ maxLen) (hc1 : ¬ c = 1) (hl : l.length = n) (h8 : k ≤ 8) (hkn : k ≤ n)
    (ha0 : a.block < w.heap.size) (hR : Rd w (some a) (((k + 16 : Nat) : Int) :: l)) (c0 : w.cell? a = some (.int .u8 ((k + 16 : Nat) : Int))) (hb : ∀ y ∈ l, 0 ≤ y ∧ y ≤ 255)
    (hr1 : 9223372036854775807 < val (l.take k) → r = none)
    (hr2 : val (l.take k) ≤ 9223372036854775807 → fr (((k + 16 : Nat) : Int) :: l) (intC (val (l.take k))) = false → r = none)
    (hr3 : val (l.take k) ≤ 9223372036854775807 → fr (((k + 16 : Nat) : Int) :: l) (intC (val (l.take k))) = true → r = some ((val (l.take k)), ((intC (val (l.take k))).length : Int))) :
    Calls Try.prog 24 #[.slice (some a) (n + 1) c] w fun e w' => e = .returned (tri .i64 r) ∧ Below w.heap.size w w' := by
  have hcm' := hcm
  unfold maxLen at hcm
  have hn1 : ((n : Int) + 1 == 0) = false := by rw [beq_eq_false_iff_ne]; omega
  have hd1 : decide ((8 : Int) < (k : Int)) = false := decide_eq_false (by omega)
  have hd2 : decide ((n : Int) + 1 < 1 + (k : Int)) = false := decide_eq_false (by omega)
  have hx16 : decide ((k : Int) + 16 < 16) = false := decide_eq_false (by omega)
  have hxk1 : ((k : Int) + 16 - 16) = (k : Int) := by omega
  have hlt : (l.take k).length = k := by rw [List.length_take]; omega
  have hbt : ∀ y ∈ l.take k, 0 ≤ y ∧ y ≤ 255 := take_byte k hb
  have hvl := val_lt (l.take k) (by omega) hbt
  have HV := Lib.hid hvl
  have HU := Lib.hid (fun (h0 : -9223372036854775808 ≤ val (l.take k)) (h1 : val (l.take k) ≤ 9223372036854775807) (w : World) => gives_some (intC_pos_len (val (l.take k))) (refInt_any (val (l.take k)) h0 h1 w))
  have HF := Lib.hid (fun (h0 : -9223372036854775808 ≤ val (l.take k)) (h1 : val (l.take k) ≤ 9223372036854775807) (w : World) (g cu : Nat) (hA : Rd w (some a) (((k + 16 : Nat) : Int) :: l)) (hB : Rd w (some ⟨g, 0, none⟩) (intC (val (l.take k)))) =>
    front_any (some a) (some ⟨g, 0, none⟩) (n + 1) c (intC (val (l.take k))).length cu (((k + 16 : Nat) : Int) :: l) (intC (val (l.take k))) w hnc hcm' (by simp [hl]) rfl (le_max (intC_len _ h0 h1) (by decide)) hA hB)
  have hT := hR.tail
  have HTc := Lib.hid (fun j (hj : j < k) => by
    obtain ⟨a', h1, h2, h3⟩ := hT j (by omega)
    cases h1
    exact h3)
  have Hb := Lib.hid hb
  have HL := Lib.hid hl
  have HR := Lib.hid hR
  have Hr1 := Lib.hid hr1
  have Hr2 := Lib.hid hr2
  have Hr3 := Lib.hid hr3
  clear hT hR hb hl hcm' hlt hvl hbt hr1 hr2 hr3
  go_enter Try.func24, Try.ntmps24
  go_wp2
  go_loopw [7, 42] (fun u i wr => ∃ j : Nat, j ≤ k ∧ i = .int .i64 j ∧ u = .int .u64 (val (l.take j)) ∧ Below w.heap.size w wr) (fun _ i _ => k - (intOf i).toNat)
  case atStart => exact ⟨0, Nat.zero_le _, rfl, rfl, Below.refl _ _⟩
  case round =>
    obtain ⟨j, hj, rfl, rfl, hB⟩ := hrel
    by_cases hjx : j < k
    · have hv := val_bound (l) Hb.out j (by rw [HL.out]; omega)
      
      have c1 := (hB.cell (p := (⟨a.block, a.off + 1, none⟩ : Addr).add j) (by rw [add_block]; exact ha0)).trans (HTc.out j hjx)
      have hx := Hb.out _ (getD_mem (by rw [HL.out]; omega : j < l.length))
      have Hn : Hid (val (l.take (j + 1)) = val (l.take j) * 256 + l.getD j 0) := Lib.hid (val_take (by rw [HL.out]; omega : j < l.length))
      have hv2 : val (l.take j) < 72057594037927936 := Int.lt_of_lt_of_le hv.2 (by
        have : (256 : Int) ^ j ≤ 256 ^ 7 := by
          rw [show (256 : Int) = ((256 : Nat) : Int) from rfl, ← Int.natCast_pow, ← Int.natCast_pow]
          exact Int.ofNat_le.2 (Nat.pow_le_pow_right (by decide) (by omega))
        simpa using this)
      have hv1 := hv.1
      clear hv
      have e1 : (⟨a.block, a.off + 1, none⟩ : Addr).add j = ⟨a.block, a.off + 1 + j, none⟩ := by unfold Addr.add; by_cases h : j = 0 <;> simp [h]
      rw [e1] at c1
      clear e1
      generalize l.getD j 0 = y at *
      generalize val (l.take j) = V at *
      go_wp2
      go_roundw
      case rel => exact ⟨j + 1, by omega, by go_num, by rw [Hn.out]; congr 1; omega, hB⟩
      case measure => simp [intOf]; omega
    · obtain rfl : j = k := by omega
      have hv0 := HV.out.1
      have hv1 := HV.out.2.2
      clear HV HTc
      generalize val (l.take j) = V at *
      by_cases hmx : 9223372036854775807 < V
      · have hd3 : decide ((9223372036854775807 : Int) < V) = true := decide_eq_true hmx
        have Hx := Lib.hid (Hr1.out hmx)
        go_wp2_with fail
        go_ret3
        exact ⟨by rw [Hx.out]; rfl, hB⟩
      · have hd3 : decide ((9223372036854775807 : Int) < V) = false := decide_eq_false hmx
        have hm2 : V ≤ 9223372036854775807 := by omega
        have hr2' := Hr2.out hm2
        have hr3' := Hr3.out hm2
        have HU2 := Lib.hid (HU.out (by omega) (by omega))
        have HF2 := Lib.hid (HF.out (by omega) (by omega))
        have Hq2 := Lib.hid hr2'
        have Hq3 := Lib.hid hr3'
        clear HU HF Hr1 Hr2 Hr3 hr2' hr3'
        generalize intC (V) = U at *
        go_wp2_with fail
        refine (HU2.out _).mono ?_
        rintro e w2 ⟨g, cu, rfl, ⟨_, ru⟩, hB2⟩
        have hb2 := hB.trans (hB2.mono hB.size)
        have H32 := Lib.hid (HF2.out w2 g cu (HR.out.on hb2 (Nat.le_refl _)) ru)
        clear hB2 hB ru
        cases hf : fr (((j + 16 : Nat) : Int) :: l) U with
        | false =>
          rw [hf] at H32
          have Hx := Lib.hid (Hq2.out hf)
          clear hf
          go_wp2_with fail
          refine H32.out.mono ?_
          rintro e w3 ⟨rfl, hB3⟩
          go_wp2_with fail
          go_ret3
          exact ⟨by rw [Hx.out]; rfl, hb2.trans (hB3.mono hb2.size)⟩
        | true =>
          rw [hf] at H32
          have Hx := Lib.hid (Hq3.out hf)
          clear hf
          go_wp2_with fail
          refine H32.out.mono ?_
          rintro e w3 ⟨rfl, hB3⟩
          have hb3 := hb2.trans (hB3.mono hb2.size)
          clear hB3 H32
          go_wp2_with fail
          refine (HU2.out _).mono ?_
          rintro e w4 ⟨g4, c4, rfl, _, hB4⟩
          go_wp2_with fail
          go_ret3
          exact ⟨by rw [Hx.out]; rfl, hb3.trans (hB4.mono hb3.size)⟩
set_option maxHeartbeats 1000000 in
theorem di_no_down (a : Addr) (n c : Nat) (x k : Nat) (hxk : x + k = 15)  (w : World) (hn : n ≤ maxLen) (hs : 8 < k ∨ n < k) (c0 : w.cell? a = some (.int .u8 (x : Int))) :
    Calls Try.prog 24 #[.slice (some a) (n + 1) c] w fun e w' => e = .returned (tri .i64 none) ∧ Below w.heap.size w w' := by
  unfold maxLen at hn
  have hn1 : ((n : Int) + 1 == 0) = false := by rw [beq_eq_false_iff_ne]; omega
  have hx16 : decide ((x : Int) < 16) = true := decide_eq_true (by omega)
  have hx15 : x ≤ 15 := by omega
  have hxk1 : (15 - (x : Int)) = (k : Int) := by omega
  by_cases h8 : 8 < k
  · have hd1 : decide ((8 : Int) < (k : Int)) = true := decide_eq_true (by omega)
    go_enter Try.func24, Try.ntmps24
    go_wp2
    go_ret3
    exact ⟨rfl, Below.refl _ _⟩
  · have hd1 : decide ((8 : Int) < (k : Int)) = false := decide_eq_false (by omega)
    have hd2 : decide ((n : Int) + 1 < 1 + (k : Int)) = true := decide_eq_true (by omega)
    go_enter Try.func24, Try.ntmps24
    go_wp2
    go_ret3
    exact ⟨rfl, Below.refl _ _⟩
set_option maxHeartbeats 4000000 in
theorem di_down (a : Addr) (n c : Nat) (x k : Nat) (hxk : x + k = 15) (l : List Int) (r : Option (Int × Int)) (w : World) (hnc : n + 1 ≤ c) (hcm : c ≤ maxLen) (hc1 : ¬ c = 1) (hl : l.length = n) (h8 : k ≤ 8) (hkn : k ≤ n)
    (ha0 : a.block < w.heap.size) (hR : Rd w (some a) ((x : Int) :: l)) (c0 : w.cell? a = some (.int .u8 (x : Int))) (hb : ∀ y ∈ l, 0 ≤ y ∧ y ≤ 255)
    (hr1 : 9223372036854775807 < val (tn (l.take k)) → r = none)
    (hr2 : val (tn (l.take k)) ≤ 9223372036854775807 → fr ((x : Int) :: l) (intC ((-1 - val (tn (l.take k))))) = false → r = none)
    (hr3 : val (tn (l.take k)) ≤ 9223372036854775807 → fr ((x : Int) :: l) (intC ((-1 - val (tn (l.take k))))) = true → r = some (((-1 - val (tn (l.take k)))), ((intC ((-1 - val (tn (l.take k))))).length : Int))) :
    Calls Try.prog 24 #[.slice (some a) (n + 1) c] w fun e w' => e = .returned (tri .i64 r) ∧ Below w.heap.size w w' := by
  have hcm' := hcm
  unfold maxLen at hcm
  have hn1 : ((n : Int) + 1 == 0) = false := by rw [beq_eq_false_iff_ne]; omega
  have hd1 : decide ((8 : Int) < (k : Int)) = false := decide_eq_false (by omega)
  have hd2 : decide ((n : Int) + 1 < 1 + (k : Int)) = false := decide_eq_false (by omega)
  have hx16 : decide ((x : Int) < 16) = true := decide_eq_true (by omega)
  have hx15 : x ≤ 15 := by omega
  have hxk1 : (15 - (x : Int)) = (k : Int) := by omega
  have hlt : (tn (l.take k)).length = k := by rw [tn_length]; rw [List.length_take]; omega
  have hbt : ∀ y ∈ tn (l.take k), 0 ≤ y ∧ y ≤ 255 := tn_byte (take_byte k hb)
  have hvl := val_lt (tn (l.take k)) (by omega) hbt
  have HV := Lib.hid hvl
  have HU := Lib.hid (fun (h0 : -9223372036854775808 ≤ (-1 - val (tn (l.take k)))) (h1 : (-1 - val (tn (l.take k))) ≤ 9223372036854775807) (w : World) => gives_some (intC_pos_len ((-1 - val (tn (l.take k))))) (refInt_any ((-1 - val (tn (l.take k)))) h0 h1 w))
  have HF := Lib.hid (fun (h0 : -9223372036854775808 ≤ (-1 - val (tn (l.take k)))) (h1 : (-1 - val (tn (l.take k))) ≤ 9223372036854775807) (w : World) (g cu : Nat) (hA : Rd w (some a) ((x : Int) :: l)) (hB : Rd w (some ⟨g, 0, none⟩) (intC ((-1 - val (tn (l.take k)))))) =>
    front_any (some a) (some ⟨g, 0, none⟩) (n + 1) c (intC ((-1 - val (tn (l.take k))))).length cu ((x : Int) :: l) (intC ((-1 - val (tn (l.take k))))) w hnc hcm' (by simp [hl]) rfl (le_max (intC_len _ h0 h1) (by decide)) hA hB)
  have hT := hR.tail
  have HTc := Lib.hid (fun j (hj : j < k) => by
    obtain ⟨a', h1, h2, h3⟩ := hT j (by omega)
    cases h1
    exact h3)
  have Hb := Lib.hid hb
  have HL := Lib.hid hl
  have HR := Lib.hid hR
  have Hr1 := Lib.hid hr1
  have Hr2 := Lib.hid hr2
  have Hr3 := Lib.hid hr3
  clear hT hR hb hl hcm' hlt hvl hbt hr1 hr2 hr3
  go_enter Try.func24, Try.ntmps24
  go_wp2
  go_loopw [7, 42] (fun u i wr => ∃ j : Nat, j ≤ k ∧ i = .int .i64 j ∧ u = .int .u64 (val (tn (l.take j))) ∧ Below w.heap.size w wr) (fun _ i _ => k - (intOf i).toNat)
  case atStart => exact ⟨0, Nat.zero_le _, rfl, rfl, Below.refl _ _⟩
  case round =>
    obtain ⟨j, hj, rfl, rfl, hB⟩ := hrel
    by_cases hjx : j < k
    · have hv := val_bound (tn (l)) (tn_byte Hb.out) j (by rw [tn_length]; rw [HL.out]; omega)
      rw [← tn_take_comm] at hv
      have c1 := (hB.cell (p := (⟨a.block, a.off + 1, none⟩ : Addr).add j) (by rw [add_block]; exact ha0)).trans (HTc.out j hjx)
      have hx := Hb.out _ (getD_mem (by rw [HL.out]; omega : j < l.length))
      have Hn : Hid (val (tn (l.take (j + 1))) = val (tn (l.take j)) * 256 + (255 - l.getD j 0)) := Lib.hid (by rw [tnl_take (by rw [HL.out]; omega : j < l.length), val_snoc])
      have hv2 : val (tn (l.take j)) < 72057594037927936 := Int.lt_of_lt_of_le hv.2 (by
        have : (256 : Int) ^ j ≤ 256 ^ 7 := by
          rw [show (256 : Int) = ((256 : Nat) : Int) from rfl, ← Int.natCast_pow, ← Int.natCast_pow]
          exact Int.ofNat_le.2 (Nat.pow_le_pow_right (by decide) (by omega))
        simpa using this)
      have hv1 := hv.1
      clear hv
      have e1 : (⟨a.block, a.off + 1, none⟩ : Addr).add j = ⟨a.block, a.off + 1 + j, none⟩ := by unfold Addr.add; by_cases h : j = 0 <;> simp [h]
      rw [e1] at c1
      clear e1
      generalize l.getD j 0 = y at *
      generalize val (tn (l.take j)) = V at *
      go_wp2
      go_roundw
      case rel => exact ⟨j + 1, by omega, by go_num, by rw [Hn.out]; congr 1; omega, hB⟩
      case measure => simp [intOf]; omega
    · obtain rfl : j = k := by omega
      have hv0 := HV.out.1
      have hv1 := HV.out.2.2
      clear HV HTc
      generalize val (tn (l.take j)) = V at *
      by_cases hmx : 9223372036854775807 < V
      · have hd3 : decide ((9223372036854775807 : Int) < V) = true := decide_eq_true hmx
        have Hx := Lib.hid (Hr1.out hmx)
        go_wp2_with fail
        go_ret3
        exact ⟨by rw [Hx.out]; rfl, hB⟩
      · have hd3 : decide ((9223372036854775807 : Int) < V) = false := decide_eq_false hmx
        have hm2 : V ≤ 9223372036854775807 := by omega
        have hr2' := Hr2.out hm2
        have hr3' := Hr3.out hm2
        have HU2 := Lib.hid (HU.out (by omega) (by omega))
        have HF2 := Lib.hid (HF.out (by omega) (by omega))
        have Hq2 := Lib.hid hr2'
        have Hq3 := Lib.hid hr3'
        clear HU HF Hr1 Hr2 Hr3 hr2' hr3'
        generalize intC ((-1 - V)) = U at *
        go_wp2_with fail
        refine (HU2.out _).mono ?_
        rintro e w2 ⟨g, cu, rfl, ⟨_, ru⟩, hB2⟩
        have hb2 := hB.trans (hB2.mono hB.size)
        have H32 := Lib.hid (HF2.out w2 g cu (HR.out.on hb2 (Nat.le_refl _)) ru)
        clear hB2 hB ru
        cases hf : fr ((x : Int) :: l) U with
        | false =>
          rw [hf] at H32
          have Hx := Lib.hid (Hq2.out hf)
          clear hf
          go_wp2_with fail
          refine H32.out.mono ?_
          rintro e w3 ⟨rfl, hB3⟩
          go_wp2_with fail
          go_ret3
          exact ⟨by rw [Hx.out]; rfl, hb2.trans (hB3.mono hb2.size)⟩
        | true =>
          rw [hf] at H32
          have Hx := Lib.hid (Hq3.out hf)
          clear hf
          go_wp2_with fail
          refine H32.out.mono ?_
          rintro e w3 ⟨rfl, hB3⟩
          have hb3 := hb2.trans (hB3.mono hb2.size)
          clear hB3 H32
          go_wp2_with fail
          refine (HU2.out _).mono ?_
          rintro e w4 ⟨g4, c4, rfl, _, hB4⟩
          go_wp2_with fail
          go_ret3
          exact ⟨by rw [Hx.out]; rfl, hb3.trans (hB4.mono hb3.size)⟩
end Go.Proofs.Ytnjapbfnodfgpaa.Rk
