/- The document's ReadInt answers what the program's does. -/
import Derived.Test.YtnjapbfnodfgpaaW30
namespace Go.Proofs.Ytnjapbfnodfgpaa.Rk
open Go Go.RowKit
theorem readR_in {l : List Int} {k : Nat} (h8 : k ≤ 8) (hk : k ≤ l.length) : readR l k = if 0 < k ∧ l.getD 0 0 = 0 then none else some (val (l.take k)) := by
  unfold readR
  by_cases h : 0 < k ∧ l.getD 0 0 = 0
  · rw [if_pos (.inr (.inr h)), if_pos h]
  · rw [if_neg (by omega), if_neg h]
theorem readR_out {l : List Int} {k : Nat} (h : 8 < k ∨ l.length < k) : readR l k = none := by
  unfold readR
  rw [if_pos (by omega)]
theorem first_take (l : List Int) {k : Nat} (h : 0 < k) : (l.take k).getD 0 0 = l.getD 0 0 := by
  rw [List.getD_eq_getElem?_getD, List.getD_eq_getElem?_getD, List.getElem?_take, if_pos h]
theorem tn8 {l : List Int} {k : Nat} (h8 : k ≤ 8) (hk : k ≤ l.length) : readR (tn (l.take 8)) k = if 0 < k ∧ (tn l).getD 0 0 = 0 then none else some (val (tn (l.take k))) := by
  have hlen : k ≤ (tn (l.take 8)).length := by rw [tn_length, List.length_take]; omega
  rw [readR_in h8 hlen, tn_take_comm l 8, first_take (tn l) (by omega : 0 < 8), List.take_take, Nat.min_eq_left h8, tn_take_comm l k]
theorem up_facts (k : Nat) (l : List Int) (h8 : k ≤ 8) (hk : k ≤ l.length) (hb : ∀ x ∈ l, 0 ≤ x ∧ x ≤ 255) :
    (9223372036854775807 < val (l.take k) → riR (((k + 16 : Nat) : Int) :: l) = none) ∧
    (val (l.take k) ≤ 9223372036854775807 → fr (((k + 16 : Nat) : Int) :: l) (intC (val (l.take k))) = false → riR (((k + 16 : Nat) : Int) :: l) = none) ∧
    (val (l.take k) ≤ 9223372036854775807 → fr (((k + 16 : Nat) : Int) :: l) (intC (val (l.take k))) = true → riR (((k + 16 : Nat) : Int) :: l) = some ((val (l.take k)), ((intC (val (l.take k))).length : Int))) := by
  rw [riR_up, readR_in h8 hk, fr_up k l h8 hk hb]
  by_cases h : 0 < k ∧ l.getD 0 0 = 0
  · rw [if_pos h]
    exact ⟨fun _ => rfl, fun _ _ => rfl, fun _ h' => absurd h (of_decide_eq_true h')⟩
  · rw [if_neg h]
    refine ⟨fun h1 => ?_, fun _ h' => absurd h (of_decide_eq_false h'), fun h1 _ => ?_⟩
    · show (if _ then _ else _) = _
      rw [if_neg (by omega)]
    · show (if _ then _ else _) = _
      rw [if_pos h1]
      have hlt : (l.take k).length = k := by rw [List.length_take]; omega
      have hv := val_lt (l.take k) (by omega) (take_byte k hb)
      have hd := (dig_val (l.take k) (by omega) (take_byte k hb) (by rw [hlt]; exact fun h' => h ⟨h'.1, by rw [← first_take l h'.1]; exact h'.2⟩)).1
      have e : val (l.take k) = (((val (l.take k)).toNat : Nat) : Int) := by omega
      have el := intC_length_pos (val (l.take k)).toNat
      rw [← e, hd, hlt] at el
      rw [el]
      simp
theorem down_facts (x k : Nat) (l : List Int) (hxk : x + k = 15) (h8 : k ≤ 8) (hk : k ≤ l.length) (hb : ∀ x ∈ l, 0 ≤ x ∧ x ≤ 255) :
    (9223372036854775807 < val (tn (l.take k)) → riR ((x : Int) :: l) = none) ∧
    (val (tn (l.take k)) ≤ 9223372036854775807 → fr ((x : Int) :: l) (intC (-1 - val (tn (l.take k)))) = false → riR ((x : Int) :: l) = none) ∧
    (val (tn (l.take k)) ≤ 9223372036854775807 → fr ((x : Int) :: l) (intC (-1 - val (tn (l.take k)))) = true → riR ((x : Int) :: l) = some ((-1 - val (tn (l.take k))), ((intC (-1 - val (tn (l.take k)))).length : Int))) := by
  rw [riR_down x k hxk, tn8 h8 hk, fr_down x k l hxk h8 hk hb]
  by_cases h : 0 < k ∧ (tn l).getD 0 0 = 0
  · rw [if_pos h]
    exact ⟨fun _ => rfl, fun _ _ => rfl, fun _ h' => absurd h (of_decide_eq_true h')⟩
  · rw [if_neg h]
    refine ⟨fun h1 => ?_, fun _ h' => absurd h (of_decide_eq_false h'), fun h1 _ => ?_⟩
    · show (if _ then _ else _) = _
      rw [if_neg (by omega)]
    · show (if _ then _ else _) = _
      rw [if_pos h1]
      have hlt : (tn (l.take k)).length = k := by rw [tn_length, List.length_take]; omega
      have hbt := tn_byte (take_byte k hb)
      have hv := val_lt (tn (l.take k)) (by omega) hbt
      have hd := (dig_val (tn (l.take k)) (by omega) hbt (by rw [hlt]; exact fun h' => h ⟨h'.1, by rw [tn_take_comm, first_take (tn l) h'.1] at h'; exact h'.2⟩)).1
      have e : val (tn (l.take k)) = (((val (tn (l.take k))).toNat : Nat) : Int) := by omega
      have el := intC_length_neg (val (tn (l.take k))).toNat
      rw [← e, hd, hlt] at el
      rw [el]
      simp
set_option maxHeartbeats 1000000 in
theorem di_none (ao : Option Addr) (c : Nat) (w : World) :
    Calls Try.prog 24 #[.slice ao 0 c] w fun e w' => e = .returned (tri .i64 none) ∧ Below w.heap.size w w' := by
  go_enter Try.func24, Try.ntmps24
  go_wp2
  go_ret3
  exact ⟨rfl, Below.refl _ _⟩
set_option maxHeartbeats 3000000 in
theorem di_one (a : Addr) (x v : Int) (w : World) (hR : Rd w (some a) [x]) (c0 : w.cell? a = some (.int .u8 x)) (hx : (x = 16 ∧ v = 0) ∨ (x = 15 ∧ v = -1)) :
    Calls Try.prog 24 #[.slice (some a) 1 1] w fun e w' => e = .returned (tri .i64 (some (v, 1))) ∧ Below w.heap.size w w' := by
  have hv : intC v = [x] := by
    rcases hx with ⟨rfl, rfl⟩ | ⟨rfl, rfl⟩ <;> rfl
  have HU := Lib.hid (fun (w : World) => gives_some (intC_pos_len v) (refInt_any v (by omega) (by omega) w))
  have hF := fun (w : World) (g cu : Nat) (hA : Rd w (some a) [x]) (hB : Rd w (some ⟨g, 0, none⟩) (intC v)) =>
    front_any (some a) (some ⟨g, 0, none⟩) 1 1 1 cu [x] (intC v) w (Nat.le_refl _) (by unfold maxLen; omega) rfl (by rw [hv]; rfl) (by rw [hv]; unfold maxLen; simp) hA hB
  have hfr : fr [x] (intC v) = true := by rw [hv]; unfold fr; simp
  have hlen : (intC v).length = 1 := by rw [hv]; rfl
  rw [hfr] at hF
  have HF := Lib.hid hF
  have HR := Lib.hid hR
  clear hF hR hfr hv
  unfold GivesS at HU
  rw [hlen] at HU
  clear hlen
  generalize intC v = U at *
  rcases hx with ⟨rfl, rfl⟩ | ⟨rfl, rfl⟩
  all_goals
    go_enter Try.func24, Try.ntmps24
    go_wp2
    refine wp_loop_rounds 1 ?_
    rw [rounds_succ]
    go_wp2_with fail
    refine (HU.out _).mono ?_
    rintro e w2 ⟨g, cu, rfl, ⟨_, ru⟩, hB2⟩
    have H32 := Lib.hid (HF.out w2 g cu (HR.out.on hB2 (Nat.le_refl _)) ru)
    go_wp2_with fail
    refine H32.out.mono ?_
    rintro e w3 ⟨rfl, hB3⟩
    have hb3 := hB2.trans (hB3.mono hB2.size)
    clear hB3 hB2 H32
    go_wp2_with fail
    refine (HU.out _).mono ?_
    rintro e w4 ⟨g4, c4, rfl, _, hB4⟩
    go_wp2_with fail
    go_ret3
    exact ⟨rfl, hb3.trans (hB4.mono hb3.size)⟩
/-- The document's ReadInt: the same answer. -/
theorem di_any (ao : Option Addr) (n c : Nat) (l : List Int) (w : World) (hnc : n ≤ c) (hcm : c ≤ maxLen) (hl : l.length = n) (ha : Rd w ao l) (hb : ∀ y ∈ l, 0 ≤ y ∧ y ≤ 255) :
    Calls Try.prog 24 #[.slice ao n c] w fun e w' => e = .returned (tri .i64 (riR l)) ∧ Below w.heap.size w w' := by
  subst hl
  cases l with
  | nil => exact di_none ao c w
  | cons y l =>
    obtain ⟨a, rfl, a1, a2⟩ := ha.here (by simp)
    have hy := hb y (by simp)
    have c0 := a2 0 (by simp)
    rw [add_zero, List.getD_cons_zero] at c0
    rw [List.length_cons] at hnc ⊢
    have hb' : ∀ z ∈ l, 0 ≤ z ∧ z ≤ 255 := fun z hz => hb z (by simp [hz])
    have hlm : l.length ≤ maxLen := Nat.le_trans (by omega) hcm
    by_cases h16 : 16 ≤ y
    · obtain ⟨k, rfl⟩ : ∃ k : Nat, y = ((k + 16 : Nat) : Int) := ⟨(y - 16).toNat, by omega⟩
      by_cases hs : 8 < k ∨ l.length < k
      · rw [riR_up, readR_out hs]
        exact di_no_up a l.length c k (by omega) w hlm hs c0
      · by_cases hc1 : c = 1
        · subst hc1
          obtain rfl : l = [] := List.length_eq_zero_iff.1 (by omega)
          obtain rfl : k = 0 := by simp at hs; omega
          exact di_one a 16 0 w ha c0 (.inl ⟨rfl, rfl⟩)
        · obtain ⟨f1, f2, f3⟩ := up_facts k l (by omega) (by omega) hb'
          exact di_up a l.length c k l _ w hnc hcm hc1 rfl (by omega) (by omega) a1 ha c0 hb' f1 f2 f3
    · obtain ⟨x, rfl⟩ : ∃ x : Nat, y = (x : Int) := ⟨y.toNat, by omega⟩
      by_cases hs : 8 < 15 - x ∨ l.length < 15 - x
      · rw [riR_down x (15 - x) (by omega), readR_out (by rw [tn_length, List.length_take]; omega)]
        exact di_no_down a l.length c x (15 - x) (by omega) w hlm hs c0
      · by_cases hc1 : c = 1
        · subst hc1
          obtain rfl : l = [] := List.length_eq_zero_iff.1 (by omega)
          obtain rfl : x = 15 := by simp at hs; omega
          exact di_one a 15 (-1) w ha c0 (.inr ⟨rfl, rfl⟩)
        · obtain ⟨f1, f2, f3⟩ := down_facts x (15 - x) l (by omega) (by omega) (by omega) hb'
          exact di_down a l.length c x (15 - x) (by omega) l _ w hnc hcm hc1 rfl (by omega) (by omega) a1 ha c0 hb' f1 f2 f3
end Go.Proofs.Ytnjapbfnodfgpaa.Rk
