/- The walk of ReadInt below nought. -/
import Derived.Test.YtnjapbfnodfgpaaW12
namespace Go.Proofs.Ytnjapbfnodfgpaa.Rk
open Go Go.RowKit
theorem own_cap {w : World} {B e s g n c : Nat} {xs : List Value} (h : w.ownsRow B e s (.slice (some ⟨g, 0, none⟩) n c) n xs) : n ≤ c ∧ c ≤ maxLen := by
  rcases h.2 with ⟨h1, _⟩ | ⟨_, _, _, h1, _, _, h2, h3, _⟩
  · cases h1
  · cases h1
    exact ⟨h2, h3⟩
theorem tn_byte {l : List Int} (h : ∀ x ∈ l, 0 ≤ x ∧ x ≤ 255) : ∀ x ∈ tn l, 0 ≤ x ∧ x ≤ 255 := by
  intro x hx
  simp only [tn, List.mem_map] at hx
  obtain ⟨y, hy, rfl⟩ := hx
  have := h y hy
  omega
theorem own_rd {w : World} {B g n c : Nat} {l : List Int} (h : w.ownsRow B 5 1 (.slice (some ⟨g, 0, none⟩) n c) n (bs l)) (hl : l.length = n) : Rd w (some ⟨g, 0, none⟩) l := by
  subst hl
  obtain ⟨ao, c', h1, h2⟩ := Own.rd h
  cases h1
  exact h2
/-- turned, and read behind it. -/
theorem turned_read {n k : Nat} {l : List Int} {r : Option Int} {g cc : Nat} {w w2 : World} (hl : l.length = n) (hk : k ≤ 256) (hb : ∀ x ∈ l, 0 ≤ x ∧ x ≤ 255) (hr : readR (tn l) k = r)
    (h : w2.ownsRow w.heap.size 5 1 (.slice (some ⟨g, 0, none⟩) n cc) n (bs (tn l))) :
    Calls Try.prog 31 #[.slice (some ⟨g, 0, none⟩) n cc, .int .i64 k] w2 fun e w' => e = .returned (.tuple #[.int .u64 (r.getD 0), .bool r.isSome]) ∧ Below w2.heap.size w2 w' := by
  subst hr
  exact read_any _ n cc k (tn l) w2 (own_cap h).1 (own_cap h).2 (by rw [tn_length, hl]) hk (own_rd h (by rw [tn_length, hl])) (tn_byte hb)
theorem Rd.take {w : World} {ao : Option Addr} {l : List Int} (h : Rd w ao l) (m : Nat) : Rd w ao (l.take m) := by
  intro k hk
  rw [List.length_take] at hk
  obtain ⟨a, h1, h2, h3⟩ := h k (by omega)
  refine ⟨a, h1, h2, ?_⟩
  rw [h3, List.getD_eq_getElem?_getD, List.getD_eq_getElem?_getD, List.getElem?_take, if_pos (by omega)]
set_option maxHeartbeats 1000000 in
theorem ri_down (a : Addr) (n c x k : Nat) (l : List Int) (w : World) (hnc : n + 1 ≤ c) (hcm : c ≤ maxLen) (hc1 : ¬ c = 1) (hl : l.length = n) (hxk : x + k = 15)
    (hR : Rd w (some a) ((x : Int) :: l)) (c0 : w.cell? a = some (.int .u8 (x : Int))) (hb : ∀ y ∈ l, 0 ≤ y ∧ y ≤ 255) :
    Calls Try.prog 21 #[.slice (some a) (n + 1) c] w fun e w' => e = .returned (tri .i64 (riR ((x : Int) :: l))) ∧ Below w.heap.size w w' := by
  have hbt : ∀ y ∈ l.take 8, 0 ≤ y ∧ y ≤ 255 := fun y hy => hb y (List.mem_of_mem_take hy)
  rw [riR_down x k hxk]
  obtain ⟨m, hm0⟩ : ∃ m, m = min 8 n := ⟨_, rfl⟩
  have hlm : (l.take 8).length = m := by rw [List.length_take, hl, hm0]
  have hm : (min 8 (n : Int)).toNat = m := by omega
  have ht := fun q => turned_any (some ⟨a.block, a.off + 1, none⟩) m (c - 1) (l.take 8) (w.drewN q) (by omega) hlm ((hR.tail.take 8).on (below_drewN (Below.refl _ _) q) (Nat.le_refl _)) hbt
  have hrn := fun v => readR_nat (k := k) (n := v) (tn_byte hbt)
  unfold maxLen at hcm
  have hn1 : ((n : Int) + 1 == 0) = false := by rw [beq_eq_false_iff_ne]; omega
  have Hb := Lib.hid hbt
  have HL := Lib.hid hlm
  have Ht := Lib.hid ht
  have Hk := Lib.hid (show k ≤ 256 by omega)
  have hm8 : m ≤ 8 := by omega
  clear hR hb hl ht hbt hlm hm0
  have hw : IntKind.i64.wrap ((x : Int) - 16) = (x : Int) - 16 := by simp [IntKind.wrap, IntKind.bits, IntKind.signed]; omega
  have hx0 : x ≤ 15 := by omega
  have hkx : -1 - ((x : Int) - 16) = (k : Int) := by omega
  cases h : readR (tn (List.take 8 l)) k with
  | none =>
    have Hh := Lib.hid h
    clear h hrn
    show Calls _ _ _ _ fun e w' => e = .returned (tri .i64 none) ∧ _
    go_enter Try.func21, Try.ntmps21
    go_wp2
    go_quiet (fail)
    go_wp2_with fail
    refine (Ht.out _).mono ?_
    clear Ht
    rintro e w1 ⟨g, cc, rfl, hown, hB1⟩
    have Hq := Lib.hid (turned_read HL.out Hk.out Hb.out Hh.out hown)
    clear hown
    go_wp2_with fail
    refine Hq.out.mono ?_
    clear Hq
    rintro e w2 ⟨rfl, hB2⟩
    go_wp2_with fail
    have hB3 : Below w.heap.size w w1 := (below_drewN (Below.refl _ w) _).trans hB1
    go_ret3
    exact ⟨rfl, hB3.trans (hB2.mono hB3.size)⟩
  | some v =>
    have hv := hrn v h
    have Hh := Lib.hid h
    clear h hrn
    by_cases hvm : v ≤ 9223372036854775807
    · have E : ((some v).bind fun n => if n ≤ 9223372036854775807 then some (-1 - n, 1 + (k : Int)) else none) = some (-1 - v, 1 + (k : Int)) := by simp [hvm]
      rw [E]
      clear E
      have hno : bits .xor .i64 (-1) v = -1 - v := by
        have := i64_not v.toNat (by omega)
        rwa [show ((v.toNat : Nat) : Int) = v by omega] at this
      go_enter Try.func21, Try.ntmps21
      go_wp2
      go_quiet (fail)
      go_wp2_with fail
      refine (Ht.out _).mono ?_
      clear Ht
      rintro e w1 ⟨g, cc, rfl, hown, hB1⟩
      have Hq := Lib.hid (turned_read HL.out Hk.out Hb.out Hh.out hown)
      clear hown
      go_wp2_with fail
      refine Hq.out.mono ?_
      clear Hq
      rintro e w2 ⟨rfl, hB2⟩
      go_wp2_with fail
      have hB3 : Below w.heap.size w w1 := (below_drewN (Below.refl _ w) _).trans hB1
      go_ret3
      exact ⟨rfl, hB3.trans (hB2.mono hB3.size)⟩
    · have E : ((some v).bind fun n => if n ≤ 9223372036854775807 then some (-1 - n, 1 + (k : Int)) else none) = none := by simp [hvm]
      rw [E]
      clear E
      go_enter Try.func21, Try.ntmps21
      go_wp2
      go_quiet (fail)
      go_wp2_with fail
      refine (Ht.out _).mono ?_
      clear Ht
      rintro e w1 ⟨g, cc, rfl, hown, hB1⟩
      have Hq := Lib.hid (turned_read HL.out Hk.out Hb.out Hh.out hown)
      clear hown
      go_wp2_with fail
      refine Hq.out.mono ?_
      clear Hq
      rintro e w2 ⟨rfl, hB2⟩
      go_wp2_with fail
      have hB3 : Below w.heap.size w w1 := (below_drewN (Below.refl _ w) _).trans hB1
      go_ret3
      exact ⟨rfl, hB3.trans (hB2.mono hB3.size)⟩
set_option maxHeartbeats 1000000 in
theorem ri_down1 (a : Addr) (x k : Nat) (w : World) (hxk : x + k = 15) (c0 : w.cell? a = some (.int .u8 (x : Int))) :
    Calls Try.prog 21 #[.slice (some a) 1 1] w fun e w' => e = .returned (tri .i64 (riR ((x : Int) :: []))) ∧ Below w.heap.size w w' := by
  rw [riR_down x k hxk]
  have ht := fun q => turned_any (some a) 0 0 (List.take 8 []) (w.drewN q) (by omega) rfl (Rd.nil _ _) (by simp)
  have hbt : ∀ y ∈ List.take 8 ([] : List Int), 0 ≤ y ∧ y ≤ 255 := by simp
  have hlm : (List.take 8 ([] : List Int)).length = 0 := rfl
  have hrn := fun v => readR_nat (k := k) (n := v) (tn_byte hbt)
  have Hb := Lib.hid hbt
  have HL := Lib.hid hlm
  have Ht := Lib.hid ht
  have Hk := Lib.hid (show k ≤ 256 by omega)
  clear ht hbt hlm
  have hw : IntKind.i64.wrap ((x : Int) - 16) = (x : Int) - 16 := by simp [IntKind.wrap, IntKind.bits, IntKind.signed]; omega
  have hx0 : x ≤ 15 := by omega
  have hkx : -1 - ((x : Int) - 16) = (k : Int) := by omega
  cases h : readR (tn (List.take 8 [])) k with
  | none =>
    have Hh := Lib.hid h
    clear h hrn
    show Calls _ _ _ _ fun e w' => e = .returned (tri .i64 none) ∧ _
    go_enter Try.func21, Try.ntmps21
    go_wp2
    go_quiet (fail)
    go_wp2_with fail
    refine (Ht.out _).mono ?_
    clear Ht
    rintro e w1 ⟨g, cc, rfl, hown, hB1⟩
    have Hq := Lib.hid (turned_read HL.out Hk.out Hb.out Hh.out hown)
    clear hown
    go_wp2_with fail
    refine Hq.out.mono ?_
    clear Hq
    rintro e w2 ⟨rfl, hB2⟩
    go_wp2_with fail
    have hB3 : Below w.heap.size w w1 := (below_drewN (Below.refl _ w) _).trans hB1
    go_ret3
    exact ⟨rfl, hB3.trans (hB2.mono hB3.size)⟩
  | some v =>
    have hv := hrn v h
    have Hh := Lib.hid h
    clear h hrn
    by_cases hvm : v ≤ 9223372036854775807
    · have E : ((some v).bind fun n => if n ≤ 9223372036854775807 then some (-1 - n, 1 + (k : Int)) else none) = some (-1 - v, 1 + (k : Int)) := by simp [hvm]
      rw [E]
      clear E
      have hno : bits .xor .i64 (-1) v = -1 - v := by
        have := i64_not v.toNat (by omega)
        rwa [show ((v.toNat : Nat) : Int) = v by omega] at this
      go_enter Try.func21, Try.ntmps21
      go_wp2
      go_quiet (fail)
      go_wp2_with fail
      refine (Ht.out _).mono ?_
      clear Ht
      rintro e w1 ⟨g, cc, rfl, hown, hB1⟩
      have Hq := Lib.hid (turned_read HL.out Hk.out Hb.out Hh.out hown)
      clear hown
      go_wp2_with fail
      refine Hq.out.mono ?_
      clear Hq
      rintro e w2 ⟨rfl, hB2⟩
      go_wp2_with fail
      have hB3 : Below w.heap.size w w1 := (below_drewN (Below.refl _ w) _).trans hB1
      go_ret3
      exact ⟨rfl, hB3.trans (hB2.mono hB3.size)⟩
    · have E : ((some v).bind fun n => if n ≤ 9223372036854775807 then some (-1 - n, 1 + (k : Int)) else none) = none := by simp [hvm]
      rw [E]
      clear E
      go_enter Try.func21, Try.ntmps21
      go_wp2
      go_quiet (fail)
      go_wp2_with fail
      refine (Ht.out _).mono ?_
      clear Ht
      rintro e w1 ⟨g, cc, rfl, hown, hB1⟩
      have Hq := Lib.hid (turned_read HL.out Hk.out Hb.out Hh.out hown)
      clear hown
      go_wp2_with fail
      refine Hq.out.mono ?_
      clear Hq
      rintro e w2 ⟨rfl, hB2⟩
      go_wp2_with fail
      have hB3 : Below w.heap.size w w1 := (below_drewN (Below.refl _ w) _).trans hB1
      go_ret3
      exact ⟨rfl, hB3.trans (hB2.mono hB3.size)⟩
set_option maxHeartbeats 1000000 in
theorem ri_up1 (a : Addr) (k : Nat) (w : World) (hk : k ≤ 239) (c0 : w.cell? a = some (.int .u8 ((k + 16 : Nat) : Int))) :
    Calls Try.prog 21 #[.slice (some a) 1 1] w fun e w' => e = .returned (tri .i64 (riR (((k + 16 : Nat) : Int) :: []))) ∧ Below w.heap.size w w' := by
  have hr := fun q => read_any (some a) 0 0 k [] (w.drewN q) (by omega) (by unfold maxLen; omega) rfl (by omega) (Rd.nil _ _) (by simp)
  rw [riR_up]
  have hrn := fun v => readR_nat (l := []) (k := k) (n := v) (by simp)
  obtain ⟨x, hx⟩ : ∃ x : Int, x = ((k + 16 : Nat) : Int) := ⟨_, rfl⟩
  rw [← hx] at c0
  have hw : IntKind.i64.wrap (x - 16) = (k : Int) := by rw [hx]; simp [IntKind.wrap, IntKind.bits, IntKind.signed]; omega
  have hx0 : 0 ≤ x ∧ x ≤ 255 := by omega
  clear hx
  cases h : readR [] k with
  | none =>
    rw [h] at hr
    have Hr := Lib.hid hr
    clear hr h hrn
    go_enter Try.func21, Try.ntmps21
    go_wp2
    go_quiet (fail)
    go_wp2_with (go_at_call 31; refine (Hr.out _).mono ?_; clear Hr; rintro e w1 ⟨rfl, hB⟩)
    go_ret3
    exact ⟨rfl, (below_drewN (Below.refl _ w) _).trans hB⟩
  | some v =>
    rw [h] at hr
    have hv := hrn v h
    have Hr := Lib.hid hr
    clear hr h hrn
    by_cases hm : v ≤ 9223372036854775807
    · have E : ((some v).bind fun n => if n ≤ 9223372036854775807 then some (n, 1 + (k : Int)) else none) = some (v, 1 + (k : Int)) := by simp [hm]
      rw [E]
      clear E
      go_enter Try.func21, Try.ntmps21
      go_wp2
      go_quiet (fail)
      go_wp2_with (go_at_call 31; refine (Hr.out _).mono ?_; clear Hr; rintro e w1 ⟨rfl, hB⟩)
      go_ret3
      exact ⟨rfl, (below_drewN (Below.refl _ w) _).trans hB⟩
    · have E : ((some v).bind fun n => if n ≤ 9223372036854775807 then some (n, 1 + (k : Int)) else none) = none := by simp [hm]
      rw [E]
      clear E
      go_enter Try.func21, Try.ntmps21
      go_wp2
      go_quiet (fail)
      go_wp2_with (go_at_call 31; refine (Hr.out _).mono ?_; clear Hr; rintro e w1 ⟨rfl, hB⟩)
      go_ret3
      exact ⟨rfl, (below_drewN (Below.refl _ w) _).trans hB⟩
/-- ReadInt: the number with whose code these begin. -/
theorem ri_any (ao : Option Addr) (n c : Nat) (l : List Int) (w : World) (hnc : n ≤ c) (hcm : c ≤ maxLen) (hl : l.length = n) (ha : Rd w ao l) (hb : ∀ y ∈ l, 0 ≤ y ∧ y ≤ 255) :
    Calls Try.prog 21 #[.slice ao n c] w fun e w' => e = .returned (tri .i64 (riR l)) ∧ Below w.heap.size w w' := by
  subst hl
  cases l with
  | nil => exact ri_none ao c w
  | cons y l =>
    obtain ⟨a, rfl, a1, a2⟩ := ha.here (by simp)
    have hy := hb y (by simp)
    have c0 := a2 0 (by simp)
    rw [add_zero, List.getD_cons_zero] at c0
    have hb' : ∀ z ∈ l, 0 ≤ z ∧ z ≤ 255 := fun z hz => hb z (by simp [hz])
    by_cases h16 : 16 ≤ y
    · obtain ⟨k, rfl⟩ : ∃ k : Nat, y = ((k + 16 : Nat) : Int) := ⟨(y - 16).toNat, by omega⟩
      by_cases hc1 : c = 1
      · subst hc1
        obtain rfl : l = [] := List.length_eq_zero_iff.1 (by simpa using hnc)
        exact ri_up1 a k w (by omega) c0
      · exact ri_up a l.length c k l w hnc hcm hc1 rfl (by omega) ha c0 hb'
    · obtain ⟨x, rfl⟩ : ∃ x : Nat, y = (x : Int) := ⟨y.toNat, by omega⟩
      by_cases hc1 : c = 1
      · subst hc1
        obtain rfl : l = [] := List.length_eq_zero_iff.1 (by simpa using hnc)
        exact ri_down1 a x (15 - x) w (by omega) c0
      · exact ri_down a l.length c x (15 - x) l w hnc hcm hc1 rfl (by omega) ha c0 hb'
end Go.Proofs.Ytnjapbfnodfgpaa.Rk
