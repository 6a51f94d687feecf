/- The walk of DocParse: it answers what Parse answers. -/
import Derived.Test.YthmnkbldgpdejaaDoorW12
namespace Go.Proofs.YthmnkbldgpdejaaDoor.Val
open Go Go.RowKit
theorem pre_iff (s : ByteArray) (h : 1 ≤ s.size) : Lib.hasPrefix s.data.toList [39] = ((s[0].toNat : Int) == 39) := by
  have e := head_data s h
  cases l : s.data.toList with
  | nil => rw [l] at e; cases e
  | cons c r =>
    rw [l] at e
    simp only [List.head?_cons, Option.some.injEq] at e
    show ([39] : List UInt8).isPrefixOf (c :: r) = _
    rw [← e]
    simp only [List.isPrefixOf, Bool.and_true]
    rw [Bool.eq_iff_iff, beq_iff_eq, beq_iff_eq, ← UInt8.toNat_inj]
    have h39 : (39 : UInt8).toNat = 39 := rfl
    omega
theorem last_data (s : ByteArray) (h : 1 ≤ s.size) : s.data.toList.getLast? = some (s[s.size - 1]'(by omega)) := by
  rw [List.getLast?_eq_getElem?, List.getElem?_eq_getElem (by rw [size_data]; omega)]
  simp only [size_data]
  rw [get_data s _ (by omega)]
theorem suf_iff (s : ByteArray) (h : 1 ≤ s.size) : Lib.hasSuffix s.data.toList [39] = (((s[s.size - 1]'(by omega)).toNat : Int) == 39) := by
  have e := last_data s h
  show ([39] : List UInt8).isSuffixOf s.data.toList = _
  unfold List.isSuffixOf
  cases l : s.data.toList.reverse with
  | nil => rw [List.reverse_eq_nil_iff] at l; rw [l] at e; cases e
  | cons c r =>
    have e2 : s.data.toList.getLast? = some c := by rw [List.getLast?_eq_head?_reverse, l]; rfl
    rw [e2] at e
    simp only [Option.some.injEq] at e
    rw [← e]
    show ([39] : List UInt8).isPrefixOf (c :: r) = _
    simp only [List.isPrefixOf, Bool.and_true]
    rw [Bool.eq_iff_iff, beq_iff_eq, beq_iff_eq, ← UInt8.toNat_inj]
    have h39 : (39 : UInt8).toNat = 39 := rfl
    omega
theorem quo_num {s : ByteArray} (h : quoB s = true) : numB s.data.toList = none := by
  unfold quoB at h
  simp only [Bool.and_eq_true, decide_eq_true_iff] at h
  have h1 := h.2.1
  rw [pre_iff s (by omega), beq_iff_eq] at h1
  have e := head_data s (by omega)
  have e39 : s[0] = 39 := UInt8.toNat_inj.1 (by show _ = 39; omega)
  rw [e39] at e
  unfold numB
  rw [if_neg (by rw [e]; decide)]
  apply numM_no4
  cases l : s.data.toList with
  | nil => rw [l] at e; cases e
  | cons c r =>
    rw [l] at e
    simp only [List.head?_cons, Option.some.injEq] at e
    rw [List.all_cons, e]
    rfl
theorem parsed_none : parsed eno = (0, 0, e0, 0) := by decide +kernel
theorem parsed_num {s : ByteArray} {n : Int} (h : s ≠ eno) (hn : numB s.data.toList = some n) : parsed s = (1, n, e0, 0) := by
  have hq : quoB s = false := by
    cases e : quoB s
    · rfl
    · rw [quo_num e] at hn; cases hn
  have hr : readR s = (1, n, e0, true) := by unfold readR; rw [if_neg h, hq, hn]; rfl
  unfold parsed
  rw [hr]
  have : formB 1 n e0.data.toList = true := by unfold formB; simp
  simp [this]
theorem parsed_quo {s : ByteArray} (h : s ≠ eno) (hq : quoB s = true) : parsed s = if formB 2 0 (inner s).data.toList then (2, 0, inner s, 0) else (0, 0, e0, 5) := by
  have hr : readR s = (2, 0, inner s, true) := by unfold readR; rw [if_neg h, hq]; rfl
  unfold parsed
  rw [hr]
  simp
theorem parsed_not {s : ByteArray} (h : s ≠ eno) (hq : quoB s = false) (hn : numB s.data.toList = none) : parsed s = (0, 0, e0, 5) := by
  have hr : readR s = (0, 0, e0, false) := by unfold readR; rw [if_neg h, hq, hn]; rfl
  unfold parsed
  rw [hr]
  rfl
set_option maxHeartbeats 400000 in
theorem dp_none (w : World) : Calls Tryd.prog 16 #[.string eno] w fun e w' => e = .returned (.tuple #[val 0 0 e0, .int .i64 0]) ∧ Below w.heap.size w w' := by
  go_enter Tryd.func16, Tryd.ntmps16
  go_wp2_with fail
  exact bodyPost_ret (v := .tuple #[val 0 0 e0, .int .i64 0]) (by simp [results, Tryd.results16, go_sem]) rfl ⟨rfl, box_below _ _⟩
set_option maxHeartbeats 400000 in
theorem dp_num (s : ByteArray) (n : Int) (w : World) (hs : s.size ≤ maxLen) (h : (s.toList == [110, 111, 110, 101]) = false) (hn : Hid (numB s.data.toList = some n)) :
    Calls Tryd.prog 16 #[.string s] w fun e w' => e = .returned (.tuple #[val 1 n e0, .int .i64 0]) ∧ Below w.heap.size w w' := by
  go_enter Tryd.func16, Tryd.ntmps16
  go_wp2_with fail
  refine (number_any _ _ hs).mono ?_
  rintro e w1 ⟨v, b, rfl, rfl, ⟨rfl, hv⟩ | ⟨rfl, hv⟩⟩
  · obtain rfl : v = n := by rw [hn.out] at hv; exact (Option.some.inj hv).symm
    clear hv
    go_wp2_with fail
    exact bodyPost_ret (v := .tuple #[val 1 v e0, .int .i64 0]) (by simp [results, Tryd.results16, go_sem]) rfl ⟨rfl, by go_grown⟩
  · rw [hn.out] at hv; cases hv
set_option maxHeartbeats 400000 in
theorem dp_short (s : ByteArray) (w : World) (hs : s.size ≤ maxLen) (h : (s.toList == [110, 111, 110, 101]) = false) (hn : Hid (numB s.data.toList = none)) (h2 : s.size < 2) :
    Calls Tryd.prog 16 #[.string s] w fun e w' => e = .returned (.tuple #[val 0 0 e0, .int .i64 5]) ∧ Below w.heap.size w w' := by
  have hs' := hs
  unfold maxLen at hs'
  go_enter Tryd.func16, Tryd.ntmps16
  go_wp2_with fail
  refine (number_any _ _ hs).mono ?_
  rintro e w1 ⟨v, b, rfl, rfl, ⟨rfl, hv⟩ | ⟨rfl, hv⟩⟩
  · rw [hn.out] at hv; cases hv
  · clear hv
    go_wp2_with fail
    exact bodyPost_ret (v := .tuple #[val 0 0 e0, .int .i64 5]) (by simp [results, Tryd.results16, go_sem, *]) rfl ⟨rfl, by go_grown⟩
set_option maxHeartbeats 400000 in
theorem dp_nopre (s : ByteArray) (w : World) (hs : s.size ≤ maxLen) (h : (s.toList == [110, 111, 110, 101]) = false) (hn : Hid (numB s.data.toList = none)) (h2 : 2 ≤ s.size) (h0 : ((s[0].toNat : Int) == 39) = false) :
    Calls Tryd.prog 16 #[.string s] w fun e w' => e = .returned (.tuple #[val 0 0 e0, .int .i64 5]) ∧ Below w.heap.size w w' := by
  have hs' := hs
  unfold maxLen at hs'
  go_enter Tryd.func16, Tryd.ntmps16
  go_wp2_with fail
  refine (number_any _ _ hs).mono ?_
  rintro e w1 ⟨v, b, rfl, rfl, ⟨rfl, hv⟩ | ⟨rfl, hv⟩⟩
  · rw [hn.out] at hv; cases hv
  · clear hv
    go_wp2_with fail
    exact bodyPost_ret (v := .tuple #[val 0 0 e0, .int .i64 5]) (by simp [results, Tryd.results16, go_sem, *]) rfl ⟨rfl, by go_grown⟩
set_option maxHeartbeats 400000 in
theorem dp_nosuf (s : ByteArray) (w : World) (hs : s.size ≤ maxLen) (h : (s.toList == [110, 111, 110, 101]) = false) (hn : Hid (numB s.data.toList = none)) (h2 : 2 ≤ s.size) (h0 : ((s[0].toNat : Int) == 39) = true) (h1 : ((s[s.size - 1].toNat : Int) == 39) = false) :
    Calls Tryd.prog 16 #[.string s] w fun e w' => e = .returned (.tuple #[val 0 0 e0, .int .i64 5]) ∧ Below w.heap.size w w' := by
  have hs' := hs
  unfold maxLen at hs'
  go_enter Tryd.func16, Tryd.ntmps16
  go_wp2_with fail
  refine (number_any _ _ hs).mono ?_
  rintro e w1 ⟨v, b, rfl, rfl, ⟨rfl, hv⟩ | ⟨rfl, hv⟩⟩
  · rw [hn.out] at hv; cases hv
  · clear hv
    go_wp2_with fail
    exact bodyPost_ret (v := .tuple #[val 0 0 e0, .int .i64 5]) (by simp [results, Tryd.results16, go_sem, *]) rfl ⟨rfl, by go_grown⟩
set_option maxHeartbeats 400000 in
theorem dp_bad (s : ByteArray) (w : World) (hs : s.size ≤ maxLen) (h : (s.toList == [110, 111, 110, 101]) = false) (hn : Hid (numB s.data.toList = none)) (h2 : 2 ≤ s.size) (h0 : ((s[0].toNat : Int) == 39) = true) (h1 : ((s[s.size - 1].toNat : Int) == 39) = true) (hf : Hid (formB 2 0 (inner s).data.toList = false)) :
    Calls Tryd.prog 16 #[.string s] w fun e w' => e = .returned (.tuple #[val 0 0 e0, .int .i64 5]) ∧ Below w.heap.size w w' := by
  have hs' := hs
  unfold maxLen at hs'
  go_enter Tryd.func16, Tryd.ntmps16
  go_wp2_with fail
  refine (number_any _ _ hs).mono ?_
  rintro e w1 ⟨v, b, rfl, rfl, ⟨rfl, hv⟩ | ⟨rfl, hv⟩⟩
  · rw [hn.out] at hv; cases hv
  · clear hv
    go_wp2_with fail
    refine (form_ok _ _ _ _ (Nat.le_trans (inner_size s) hs) _ hf).mono ?_
    rintro e w2 ⟨rfl, hb2⟩
    obtain ⟨hc2, hf2⟩ := bcell hb2
    have z2 := hb2.size
    simp only [World.size_alloc] at z2
    have y2 : w.heap.size < w2.heap.size := by omega
    have y3 : w.heap.size + 1 < w2.heap.size := by omega
    have hB2 : Below w.heap.size w w2 := ((box_below w _).alloc (by simp) _).trans (hb2.mono (by simp; omega))
    clear hb2
    have c0 : w2.cell? ⟨w.heap.size, 0, none⟩ = some (.int .u8 0) := by rw [hc2 _ _ (by simp <;> omega)]; simp [go_sem]
    have c1 : w2.cell? ⟨w.heap.size, 1, none⟩ = some (.int .i64 0) := by rw [hc2 _ _ (by simp <;> omega)]; simp [go_sem]
    have c2 : w2.cell? ⟨w.heap.size, 2, none⟩ = some (.string e0) := by rw [hc2 _ _ (by simp <;> omega)]; simp [go_sem]
    go_wp2_with fail
    exact bodyPost_ret (v := .tuple #[val 0 0 e0, .int .i64 5]) (by simp [results, Tryd.results16, go_sem, *]) rfl ⟨rfl, by go_grown⟩
set_option maxHeartbeats 400000 in
theorem dp_text (s : ByteArray) (w : World) (hs : s.size ≤ maxLen) (h : (s.toList == [110, 111, 110, 101]) = false) (hn : Hid (numB s.data.toList = none)) (h2 : 2 ≤ s.size) (h0 : ((s[0].toNat : Int) == 39) = true) (h1 : ((s[s.size - 1].toNat : Int) == 39) = true) (hf : Hid (formB 2 0 (inner s).data.toList = true)) :
    Calls Tryd.prog 16 #[.string s] w fun e w' => e = .returned (.tuple #[val 2 0 (inner s), .int .i64 0]) ∧ Below w.heap.size w w' := by
  have hs' := hs
  unfold maxLen at hs'
  go_enter Tryd.func16, Tryd.ntmps16
  go_wp2_with fail
  refine (number_any _ _ hs).mono ?_
  rintro e w1 ⟨v, b, rfl, rfl, ⟨rfl, hv⟩ | ⟨rfl, hv⟩⟩
  · rw [hn.out] at hv; cases hv
  · clear hv
    go_wp2_with fail
    refine (form_ok _ _ _ _ (Nat.le_trans (inner_size s) hs) _ hf).mono ?_
    rintro e w2 ⟨rfl, hb2⟩
    obtain ⟨hc2, hf2⟩ := bcell hb2
    have z2 := hb2.size
    simp only [World.size_alloc] at z2
    have y2 : w.heap.size < w2.heap.size := by omega
    have y3 : w.heap.size + 1 < w2.heap.size := by omega
    have hB2 : Below w.heap.size w w2 := ((box_below w _).alloc (by simp) _).trans (hb2.mono (by simp; omega))
    clear hb2
    have c0 : w2.cell? ⟨w.heap.size, 0, none⟩ = some (.int .u8 0) := by rw [hc2 _ _ (by simp <;> omega)]; simp [go_sem]
    have c1 : w2.cell? ⟨w.heap.size, 1, none⟩ = some (.int .i64 0) := by rw [hc2 _ _ (by simp <;> omega)]; simp [go_sem]
    have c2 : w2.cell? ⟨w.heap.size, 2, none⟩ = some (.string e0) := by rw [hc2 _ _ (by simp <;> omega)]; simp [go_sem]
    go_wp2_with fail
    exact bodyPost_ret (v := .tuple #[val 2 0 (inner s), .int .i64 0]) (by simp [results, Tryd.results16, go_sem, *]) rfl ⟨rfl, by go_grown⟩
/-- DocParse: what Parse answers. -/
theorem docparse_any (s : ByteArray) (w : World) (hs : s.size ≤ maxLen) :
    Calls Tryd.prog 16 #[.string s] w fun e w' => e = .returned (.tuple #[val (parsed s).1 (parsed s).2.1 (parsed s).2.2.1, .int .i64 (parsed s).2.2.2]) ∧ Below w.heap.size w w' := by
  by_cases h : s = eno
  · subst h
    rw [parsed_none]
    exact dp_none w
  · have hn := not_none h
    cases hN : numB s.data.toList with
    | some n =>
      rw [parsed_num h hN]
      exact dp_num s n w hs hn (Lib.hid hN)
    | none =>
      by_cases h2 : 2 ≤ s.size
      · have e0' := pre_iff s (by omega)
        have e1' := suf_iff s (by omega)
        cases h0 : ((s[0].toNat : Int) == 39)
        · rw [h0] at e0'
          rw [parsed_not h (by unfold quoB; rw [e0']; simp) hN]
          exact dp_nopre s w hs hn (Lib.hid hN) h2 h0
        · rw [h0] at e0'
          cases h1 : ((s[s.size - 1].toNat : Int) == 39)
          · rw [h1] at e1'
            rw [parsed_not h (by unfold quoB; rw [e1']; simp) hN]
            exact dp_nosuf s w hs hn (Lib.hid hN) h2 h0 h1
          · rw [h1] at e1'
            rw [parsed_quo h (by unfold quoB; rw [e0', e1']; simp [h2])]
            cases hf : formB 2 0 (inner s).data.toList
            · exact dp_bad s w hs hn (Lib.hid hN) h2 h0 h1 (Lib.hid hf)
            · exact dp_text s w hs hn (Lib.hid hN) h2 h0 h1 (Lib.hid hf)
      · rw [parsed_not h (by unfold quoB; simp [h2]) hN]
        exact dp_short s w hs hn (Lib.hid hN) (by omega)
end Go.Proofs.YthmnkbldgpdejaaDoor.Val
