/- The walk of the document's number. -/
import Derived.Test.YthmnkbldgpdejaaDoorW9
import Derived.Deep.Cut
namespace Go.Proofs.YthmnkbldgpdejaaDoor.Val
open Go Go.RowKit
def NumPost (l : List UInt8) (w : World) (e : Ending) (w' : World) : Prop :=
  ∃ (v : Int) (b : Bool), e = .returned (.tuple #[.int .i64 v, .bool b]) ∧ w = w' ∧ ((b = true ∧ numB l = some v) ∨ (b = false ∧ numB l = none))
theorem numM_no1 {m : Bool} {r : List UInt8} (h : r.length < 1) : numM m r = none := by unfold numM; rw [if_pos (.inl h)]
theorem numM_no2 {m : Bool} {r : List UInt8} (h : 19 < r.length) : numM m r = none := by unfold numM; rw [if_pos (.inr (.inl h))]
theorem numM_no3 {m : Bool} {r : List UInt8} (h : r.head? = some 48) (k : 1 < r.length ∨ m = true) : numM m r = none := by unfold numM; rw [if_pos (.inr (.inr (.inl ⟨h, k⟩)))]
theorem numM_no4 {m : Bool} {r : List UInt8} (h : r.all digB = false) : numM m r = none := by unfold numM; rw [if_pos (.inr (.inr (.inr h)))]
theorem numM_zero {r : List UInt8} (h : r.head? = some 48) (k : r.length ≤ 1) : numM false r = some 0 := by
  cases r with
  | nil => cases h
  | cons c t =>
    cases t with
    | nil => simp only [List.head?_cons, Option.some.injEq] at h; rw [h]; decide
    | cons d t => simp at k
theorem head_data (s : ByteArray) (h : 1 ≤ s.size) : s.data.toList.head? = some s[0] := by
  rw [List.head?_eq_getElem?, List.getElem?_eq_getElem (by rw [size_data]; omega), get_data s 0 (by omega)]
theorem head_48 (s : ByteArray) (h : 1 ≤ s.size) (e : (s[0].toNat : Int) = 48) : s.data.toList.head? = some 48 := by
  rw [head_data s h, show s[0] = 48 from UInt8.toNat_inj.1 (by show _ = 48; omega)]
theorem head_not (s : ByteArray) (h : 1 ≤ s.size) (e : ¬ (s[0].toNat : Int) = 48) : s.data.toList.head? ≠ some 48 := by
  rw [head_data s h]
  intro f
  rw [Option.some.injEq] at f
  exact e (by rw [f]; rfl)
theorem num_true (s : ByteArray) (h : 1 ≤ s.size) (hm : ((s[0].toNat : Int) == 45) = true) : numB s.data.toList = numM true (s.extract 1 s.size).data.toList := by
  have e : s[0] = 45 := UInt8.toNat_inj.1 (by show _ = 45; rw [beq_iff_eq] at hm; omega)
  unfold numB
  rw [if_pos (by rw [head_data s h, e])]
  congr 1
  rw [ByteArray.data_extract, Array.toList_extract]
  simp [List.extract]
  rw [List.take_of_length_le]
  rw [List.length_tail, size_data]
  exact Nat.le_refl _
theorem num_false (s : ByteArray) (h : 1 ≤ s.size) (hm : ((s[0].toNat : Int) == 45) = false) : numB s.data.toList = numM false s.data.toList := by
  unfold numB
  rw [if_neg]
  rw [head_data s h]
  intro f
  rw [Option.some.injEq] at f
  rw [beq_eq_false_iff_ne] at hm
  exact hm (by rw [f]; rfl)
theorem dv_lt : ∀ l : List UInt8, l.all digB = true → dv l < 10 ^ l.length := by
  intro l
  induction l using snoc_ind with
  | h0 => intro _; decide
  | h1 l c ih =>
    intro ha
    rw [List.all_append, Bool.and_eq_true] at ha
    have hd := dig_of (c := c) (by simpa using ha.2)
    have := ih ha.1
    rw [dv_snoc, List.length_append, List.length_singleton, Nat.pow_succ]
    omega
theorem dv_18 {v k n : Nat} (h : v < 10 ^ min k n) (hk : k ≤ 18) : v ≤ 999999999999999999 := by
  have : 10 ^ min k n ≤ 10 ^ 18 := Nat.pow_le_pow_right (by decide) (by omega)
  omega
theorem all_no (r : ByteArray) (j : Nat) (h : j < r.size) (hd : digB r[j] = false) : r.data.toList.all digB = false := by
  rw [← List.take_append_drop (j + 1) r.data.toList, List.all_append, take_snoc r j h, List.all_append]
  simp [hd]
theorem numM_end {m : Bool} {r : List UInt8} (h1 : 1 ≤ r.length) (h19 : r.length ≤ 19) (hh : r.head? ≠ some 48) (ha : r.all digB = true) :
    numM m r = if m then (if dv r ≤ 9223372036854775808 then some (-(dv r : Int)) else none) else (if dv r < 9223372036854775808 then some (dv r : Int) else none) := by
  unfold numM
  rw [if_neg]
  rintro (e | e | e | e)
  · omega
  · omega
  · exact hh e.1
  · rw [ha] at e; cases e
theorem end_true (u : Nat) (x : Option Int) (h : x = if true = true then (if u ≤ 9223372036854775808 then some (-(u : Int)) else none) else (if u < 9223372036854775808 then some (u : Int) else none)) :
    (decide ((u : Int) ≤ 9223372036854775808) = true ∧ x = some (wrap64 (-wrap64 (u : Int)))) ∨ (decide ((u : Int) ≤ 9223372036854775808) = false ∧ x = none) := by
  rw [if_pos rfl] at h
  by_cases e : u ≤ 9223372036854775808
  · rw [if_pos e] at h
    refine .inl ⟨decide_eq_true (by omega), ?_⟩
    have hw : wrap64 (-wrap64 (u : Int)) = -(u : Int) := by unfold wrap64; omega
    rw [h, hw]
  · rw [if_neg e] at h
    exact .inr ⟨decide_eq_false (by omega), h⟩
theorem end_false (u : Nat) (x : Option Int) (h : x = if false = true then (if u ≤ 9223372036854775808 then some (-(u : Int)) else none) else (if u < 9223372036854775808 then some (u : Int) else none)) :
    (decide ((u : Int) < 9223372036854775808) = true ∧ x = some (wrap64 (u : Int))) ∨ (decide ((u : Int) < 9223372036854775808) = false ∧ x = none) := by
  rw [if_neg (by decide)] at h
  by_cases e : u < 9223372036854775808
  · rw [if_pos e] at h
    refine .inl ⟨decide_eq_true (by omega), ?_⟩
    have hw : wrap64 (u : Int) = (u : Int) := by unfold wrap64; omega
    rw [h, hw]
  · rw [if_neg e] at h
    exact .inr ⟨decide_eq_false (by omega), h⟩
abbrev ez : ByteArray := { data := #[48] }
theorem zero_one (r : ByteArray) (h : r.data.toList.head? = some 48) (k : r.size ≤ 1) : r = ez := by
  have hl := size_data r
  apply ByteArray.ext
  apply Array.ext'
  cases e : r.data.toList with
  | nil => rw [e] at h; cases h
  | cons c t =>
    cases t with
    | nil => rw [e] at h; simp only [List.head?_cons, Option.some.injEq] at h; rw [h]
    | cons d t => rw [e] at hl; simp at hl; omega
set_option maxHeartbeats 400000 in
theorem number_0 (w : World) : Calls Tryd.prog 27 #[.string ez] w (NumPost ez.data.toList w) := by
  have Fin := Lib.hid (show numB ez.data.toList = some 0 by decide +kernel)
  go_enter Tryd.func27, Tryd.ntmps27
  go_wp2
  refine wp_loop_rounds 3 ?_
  repeat any_goals (rw [rounds_succ]; go_wp2)
  go_ret2
  exact ⟨_, _, rfl, rfl, .inl ⟨rfl, Fin.out⟩⟩
set_option maxHeartbeats 400000 in
theorem number_nil (s : ByteArray) (w : World) (h : s.size < 1) : Calls Tryd.prog 27 #[.string s] w (NumPost s.data.toList w) := by
  have hl := size_data s
  have Fin := Lib.hid (show numB s.data.toList = none by
    cases e : s.data.toList with
    | nil => decide
    | cons c t => rw [e] at hl; simp at hl; omega)
  clear hl
  go_enter Tryd.func27, Tryd.ntmps27
  go_wp2
  go_ret2
  exact ⟨_, _, rfl, rfl, .inr ⟨rfl, Fin.out⟩⟩
theorem dv_19 {v k n : Nat} (h : v < 10 ^ min k n) (hk : n ≤ 19) : v ≤ 9999999999999999999 := by
  have : 10 ^ min k n ≤ 10 ^ 19 := Nat.pow_le_pow_right (by decide) (by omega)
  omega
set_option maxRecDepth 100000 in
set_option maxHeartbeats 4000000 in
theorem number_true (s : ByteArray) (w : World) (hs : s.size ≤ maxLen) (hp : 1 ≤ s.size) (hm : ((s[0].toNat : Int) == 45) = true) :
    Calls Tryd.prog 27 #[.string s] w (NumPost s.data.toList w) := by
  unfold maxLen at hs
  have hN : Hid (numB s.data.toList = numM true (s.extract 1 s.size).data.toList) := Lib.hid (num_true s hp hm)
  go_enter Tryd.func27, Tryd.ntmps27
  go_upto_region 4 with (fail)
  have hz : (s.extract 1 s.size).size = s.size - 1 := by simp
  generalize s.extract 1 s.size = r at *
  have hr : r.size ≤ 9223372036854775807 := by omega
  clear hz
  have hl := size_data r
  by_cases h1 : r.size < 1
  · have Fin := Lib.hid (hN.out.trans (numM_no1 (by omega)))
    clear hN
    go_wp2_with fail
    go_ret2
    exact ⟨_, _, rfl, rfl, .inr ⟨rfl, Fin.out⟩⟩
  by_cases h19 : 19 < r.size
  · have Fin := Lib.hid (hN.out.trans (numM_no2 (by omega)))
    clear hN
    go_wp2_with fail
    go_ret2
    exact ⟨_, _, rfl, rfl, .inr ⟨rfl, Fin.out⟩⟩
  have g1 : 1 ≤ r.size := by omega
  have g19 : r.size ≤ 19 := by omega
  by_cases hz : (r[0].toNat : Int) = 48
  · have hzb : ((r[0].toNat : Int) == 48) = true := by rw [beq_iff_eq]; exact hz
    have hhd := head_48 r g1 hz
    clear hz
    have Fin := Lib.hid (hN.out.trans (numM_no3 hhd (.inr rfl)))
    clear hN hhd
    by_cases hone : r.size ≤ 1
    all_goals
      go_wp2_with fail
      go_ret2
      exact ⟨_, _, rfl, rfl, .inr ⟨rfl, Fin.out⟩⟩
  · have hzb : ((r[0].toNat : Int) == 48) = false := by rw [beq_eq_false_iff_ne]; exact hz
    have hhd := Lib.hid (head_not r g1 hz)
    clear hz h1 h19 hl
    go_wp2_with fail
    go_loop [5, 6] (fun u i => ∃ j : Nat, j ≤ r.size ∧ i = .int .i64 j ∧ u = .int .u64 (dv (r.data.toList.take j) : Nat) ∧ (r.data.toList.take j).all digB = true) (fun _ i => r.size - (intOf i).toNat)
    case atStart => exact ⟨0, Nat.zero_le _, rfl, rfl, rfl⟩
    case round =>
      obtain ⟨j, hj, rfl, rfl, ha⟩ := hrel
      have Ha := Lib.hid ha
      have hb := dv_lt _ ha
      clear ha
      by_cases hlt : j < r.size
      · have hb18 : dv (r.data.toList.take j) ≤ 999999999999999999 := dv_18 (by rw [List.length_take] at hb; exact hb) (by omega)
        clear hb
        cases hd : digB r[j]
        · have Fin := Lib.hid (hN.out.trans (numM_no4 (all_no r j hlt hd)))
          have h2 : (r[j].toNat : Int) < 48 ∨ 57 < (r[j].toNat : Int) := by have := of_decide_eq_false hd; omega
          clear hd
          rcases h2 with h2 | h2
          all_goals
            go_wp2_with fail
            go_ret2
            exact ⟨_, _, rfl, rfl, .inr ⟨rfl, Fin.out⟩⟩
        · have Hd := Lib.hid hd
          have h2 : 48 ≤ (r[j].toNat : Int) := by have := dig_of hd; omega
          have h3 : (r[j].toNat : Int) ≤ 57 := by have := dig_of hd; omega
          clear hd
          go_wp2_with fail
          go_round
          case rel => exact ⟨j + 1, by omega, by go_num, by rw [take_snoc r j hlt, dv_snoc]; go_num, by rw [take_snoc r j hlt, List.all_append, Ha.out]; simp [Hd.out]⟩
          case measure => simp [intOf]; omega
      · have hall : (r.data.toList.take j) = r.data.toList := List.take_of_length_le (by rw [size_data]; omega)
        have hu19 := dv_19 (by rw [List.length_take] at hb; exact hb) (by rw [size_data]; exact g19)
        have Fin := Lib.hid (hN.out.trans (numM_end (m := true) (by rw [size_data]; exact g1) (by rw [size_data]; exact g19) hhd.out (by rw [← hall]; exact Ha.out)))
        have hdv : dv r.data.toList = dv (List.take j r.data.toList) := by rw [hall]
        rw [hdv] at Fin
        clear hall hb Ha hN hdv
        generalize dv (List.take j r.data.toList) = u at *
        go_wp2_with fail
        go_ret2
        exact ⟨_, _, rfl, rfl, end_true _ _ Fin.out⟩
set_option maxRecDepth 100000 in
set_option maxHeartbeats 4000000 in
theorem number_false (s : ByteArray) (w : World) (hs : s.size ≤ maxLen) (hp : 1 ≤ s.size) (hm : ((s[0].toNat : Int) == 45) = false) (h0 : s ≠ ez) :
    Calls Tryd.prog 27 #[.string s] w (NumPost s.data.toList w) := by
  unfold maxLen at hs
  have hN : Hid (numB s.data.toList = numM false s.data.toList) := Lib.hid (num_false s hp hm)
  go_enter Tryd.func27, Tryd.ntmps27
  go_upto_region 4 with (fail)
  obtain ⟨r, rfl⟩ : ∃ r, r = s := ⟨s, rfl⟩
  have hr : r.size ≤ 9223372036854775807 := by omega
  have hl := size_data r
  by_cases h1 : r.size < 1
  · omega
  by_cases h19 : 19 < r.size
  · have Fin := Lib.hid (hN.out.trans (numM_no2 (by omega)))
    clear hN
    go_wp2_with fail
    go_ret2
    exact ⟨_, _, rfl, rfl, .inr ⟨rfl, Fin.out⟩⟩
  have g1 : 1 ≤ r.size := by omega
  have g19 : r.size ≤ 19 := by omega
  by_cases hz : (r[0].toNat : Int) = 48
  · have hzb : ((r[0].toNat : Int) == 48) = true := by rw [beq_iff_eq]; exact hz
    have hhd := head_48 r g1 hz
    clear hz
    by_cases hone : 1 < r.size
    · have Fin := Lib.hid (hN.out.trans (numM_no3 hhd (.inl (by omega))))
      clear hN hhd
      go_wp2_with fail
      go_ret2
      exact ⟨_, _, rfl, rfl, .inr ⟨rfl, Fin.out⟩⟩
    · exact absurd (zero_one r hhd (by omega)) h0
  · have hzb : ((r[0].toNat : Int) == 48) = false := by rw [beq_eq_false_iff_ne]; exact hz
    have hhd := Lib.hid (head_not r g1 hz)
    clear hz h1 h19 hl
    go_wp2_with fail
    go_loop [5, 6] (fun u i => ∃ j : Nat, j ≤ r.size ∧ i = .int .i64 j ∧ u = .int .u64 (dv (r.data.toList.take j) : Nat) ∧ (r.data.toList.take j).all digB = true) (fun _ i => r.size - (intOf i).toNat)
    case atStart => exact ⟨0, Nat.zero_le _, rfl, rfl, rfl⟩
    case round =>
      obtain ⟨j, hj, rfl, rfl, ha⟩ := hrel
      have Ha := Lib.hid ha
      have hb := dv_lt _ ha
      clear ha
      by_cases hlt : j < r.size
      · have hb18 : dv (r.data.toList.take j) ≤ 999999999999999999 := dv_18 (by rw [List.length_take] at hb; exact hb) (by omega)
        clear hb
        cases hd : digB r[j]
        · have Fin := Lib.hid (hN.out.trans (numM_no4 (all_no r j hlt hd)))
          have h2 : (r[j].toNat : Int) < 48 ∨ 57 < (r[j].toNat : Int) := by have := of_decide_eq_false hd; omega
          clear hd
          rcases h2 with h2 | h2
          all_goals
            go_wp2_with fail
            go_ret2
            exact ⟨_, _, rfl, rfl, .inr ⟨rfl, Fin.out⟩⟩
        · have Hd := Lib.hid hd
          have h2 : 48 ≤ (r[j].toNat : Int) := by have := dig_of hd; omega
          have h3 : (r[j].toNat : Int) ≤ 57 := by have := dig_of hd; omega
          clear hd
          go_wp2_with fail
          go_round
          case rel => exact ⟨j + 1, by omega, by go_num, by rw [take_snoc r j hlt, dv_snoc]; go_num, by rw [take_snoc r j hlt, List.all_append, Ha.out]; simp [Hd.out]⟩
          case measure => simp [intOf]; omega
      · have hall : (r.data.toList.take j) = r.data.toList := List.take_of_length_le (by rw [size_data]; omega)
        have hu19 := dv_19 (by rw [List.length_take] at hb; exact hb) (by rw [size_data]; exact g19)
        have Fin := Lib.hid (hN.out.trans (numM_end (m := false) (by rw [size_data]; exact g1) (by rw [size_data]; exact g19) hhd.out (by rw [← hall]; exact Ha.out)))
        have hdv : dv r.data.toList = dv (List.take j r.data.toList) := by rw [hall]
        rw [hdv] at Fin
        clear hall hb Ha hN hdv
        generalize dv (List.take j r.data.toList) = u at *
        go_wp2_with fail
        go_ret2
        exact ⟨_, _, rfl, rfl, end_false _ _ Fin.out⟩
theorem number_any (s : ByteArray) (w : World) (hs : s.size ≤ maxLen) : Calls Tryd.prog 27 #[.string s] w (NumPost s.data.toList w) := by
  by_cases h : s.size < 1
  · exact number_nil s w h
  · have hp : 1 ≤ s.size := by omega
    cases hm : ((s[0].toNat : Int) == 45)
    · by_cases h0 : s = ez
      · subst h0; exact number_0 w
      · exact number_false s w hs hp hm h0
    · exact number_true s w hs hp hm
end Go.Proofs.YthmnkbldgpdejaaDoor.Val
