/- The walks of the document's Less and DocCmp. -/
import Derived.Test.YthmnkbldgpdejaaDoorW4
namespace Go.Proofs.YthmnkbldgpdejaaDoor.Val
open Go Go.RowKit
theorem below_drewN {B : Nat} {a w : World} (h : Below B a w) (n : Nat) : Below B a (w.drewN n) := ⟨h.os, h.tape, h.output, h.size, h.block⟩
theorem size_data (s : ByteArray) : s.data.toList.length = s.size := Array.length_toList
theorem get_data (s : ByteArray) (k : Nat) (h : k < s.size) : s.data.toList[k]'(by rw [size_data]; exact h) = s[k] := by simp; rfl
theorem take_snoc (s : ByteArray) (k : Nat) (h : k < s.size) : s.data.toList.take (k + 1) = s.data.toList.take k ++ [s[k]] := by
  rw [List.take_succ_eq_append_getElem (by simpa using h)]; rfl
theorem lt_at (s t : ByteArray) (k : Nat) (hs : k < s.size) (ht : k < t.size) (h : s.data.toList.take k = t.data.toList.take k) (hne : ¬ (s[k].toNat : Int) = t[k].toNat) :
    ltB s.data.toList t.data.toList = decide (s[k].toNat < t[k].toNat) := by
  rw [ltB_at k _ _ (by rw [size_data]; exact hs) (by rw [size_data]; exact ht) h, get_data, get_data]
  · rfl
  · rw [get_data _ _ hs, get_data _ _ ht]; intro e; exact hne (by rw [e])
theorem take_next (s t : ByteArray) (k : Nat) (hs : k < s.size) (ht : k < t.size) (h : s.data.toList.take k = t.data.toList.take k) (he : (s[k].toNat : Int) = t[k].toNat) :
    s.data.toList.take (k + 1) = t.data.toList.take (k + 1) := by
  rw [take_snoc s k hs, take_snoc t k ht, h, show s[k] = t[k] from UInt8.toNat_inj.1 (by omega)]
theorem lt_end (s t : ByteArray) (k : Nat) (hs : k ≤ s.size) (ht : k ≤ t.size) (h : s.data.toList.take k = t.data.toList.take k) (he : k = s.size ∨ k = t.size) :
    ltB s.data.toList t.data.toList = decide (s.size < t.size) := by
  have hl := size_data s
  have hl' := size_data t
  rw [ltB_short, hl, hl']
  · rw [hl, hl']
    rcases he with he | he
    · subst he
      rw [List.take_of_length_le (by omega)] at h
      rw [← h, List.take_of_length_le (by omega)]
    · subst he
      rw [h, List.take_of_length_le (l := t.data.toList) (by omega), List.take_of_length_le (by omega)]
set_option maxHeartbeats 400000 in
theorem less_kinds (k n k' n' : Int) (s s' : ByteArray) (w : World) (h : ¬ k = k') :
    Calls Tryd.prog 17 #[val k n s, val k' n' s'] w fun e w' => e = .returned (.bool (lessV k n s.data.toList k' n' s'.data.toList)) ∧ Below w.heap.size w w' := by
  have Fin := Lib.hid (show lessV k n s.data.toList k' n' s'.data.toList = decide (k < k') by unfold lessV; rw [if_neg h])
  have h' : (k != k') = true := by rw [bne_iff_ne]; exact h
  clear h
  go_enter Tryd.func17, Tryd.ntmps17
  go_wp2
  go_ret
  exact ⟨ret_bool Fin.out.symm, (box_below w _).alloc (by simp) _⟩
set_option maxHeartbeats 400000 in
theorem less_ints (n n' : Int) (s s' : ByteArray) (w : World) :
    Calls Tryd.prog 17 #[val 1 n s, val 1 n' s'] w fun e w' => e = .returned (.bool (lessV 1 n s.data.toList 1 n' s'.data.toList)) ∧ Below w.heap.size w w' := by
  have Fin := Lib.hid (show lessV 1 n s.data.toList 1 n' s'.data.toList = decide (n < n') by unfold lessV; simp)
  go_enter Tryd.func17, Tryd.ntmps17
  go_wp2
  go_ret
  exact ⟨ret_bool Fin.out.symm, (box_below w _).alloc (by simp) _⟩
set_option maxRecDepth 100000 in
set_option maxHeartbeats 1000000 in
theorem less_texts (k n n' : Int) (s s' : ByteArray) (w : World) (hs : s.size ≤ maxLen) (hs' : s'.size ≤ maxLen) (h : ¬ k = 1) :
    Calls Tryd.prog 17 #[val k n s, val k n' s'] w fun e w' => e = .returned (.bool (lessV k n s.data.toList k n' s'.data.toList)) ∧ Below w.heap.size w w' := by
  unfold maxLen at hs hs'
  have Fin := Lib.hid (show lessV k n s.data.toList k n' s'.data.toList = ltB s.data.toList s'.data.toList by unfold lessV; simp [h])
  have h' : (k != k) = false := by simp
  have h1 : (k == 1) = false := by simp [h]
  clear h
  go_enter Tryd.func17, Tryd.ntmps17
  go_wp2
  go_loopw [5] (fun i wr => ∃ j : Nat, j ≤ s.size ∧ j ≤ s'.size ∧ i = .int .i64 j ∧ s.data.toList.take j = s'.data.toList.take j ∧ Below w.heap.size w wr ∧ wr.cell? ⟨w.heap.size, 2, none⟩ = some (.string s) ∧ wr.cell? ⟨w.heap.size + 1, 2, none⟩ = some (.string s')) (fun i _ => s.size - (intOf i).toNat)
  case atStart => exact ⟨0, Nat.zero_le _, Nat.zero_le _, rfl, rfl, (box_below w _).alloc (by simp) _, by simp [go_sem], by simp [go_sem]⟩
  case round =>
    obtain ⟨j, hj, hj', rfl, he, hB, hc, hc'⟩ := hrel
    have He := Lib.hid he
    clear he
    by_cases hlt : j < s.size
    · by_cases hlt' : j < s'.size
      · by_cases hne : (s[j].toNat : Int) = s'[j].toNat
        · have Hn := Lib.hid (take_next s s' j hlt hlt' He.out hne)
          have hb : ((s[j].toNat : Int) != s'[j].toNat) = false := by simp [hne]
          clear hne
          go_wp2
          go_quiet (fail)
          go_wp2
          go_roundw
          case rel => exact ⟨j + 1, by omega, by omega, by go_num, Hn.out, below_drewN hB _, by simp [hc], by simp [hc']⟩
          case measure => simp [intOf]; omega
        · have Hn := Lib.hid (lt_at s s' j hlt hlt' He.out hne)
          have hb : ((s[j].toNat : Int) != s'[j].toNat) = true := by rw [bne_iff_ne]; exact hne
          clear hne
          go_wp2
          go_quiet (fail)
          go_wp2
          go_quiet (fail)
          go_wp2
          go_ret
          exact ⟨ret_bool (Hn.out.symm.trans Fin.out.symm), below_drewN (below_drewN hB _) _⟩
      · have Hn := Lib.hid (lt_end s s' j hj hj' He.out (.inr (by omega)))
        go_wp2
        go_ret
        exact ⟨ret_bool (Hn.out.symm.trans Fin.out.symm), hB⟩
    · have Hn := Lib.hid (lt_end s s' j hj hj' He.out (.inl (by omega)))
      go_wp2
      go_ret
      exact ⟨ret_bool (Hn.out.symm.trans Fin.out.symm), hB⟩
/-- Less: of any two. -/
theorem less_any (k n k' n' : Int) (s s' : ByteArray) (w : World) (hs : s.size ≤ maxLen) (hs' : s'.size ≤ maxLen) :
    Calls Tryd.prog 17 #[val k n s, val k' n' s'] w fun e w' => e = .returned (.bool (lessV k n s.data.toList k' n' s'.data.toList)) ∧ Below w.heap.size w w' := by
  by_cases h : k = k'
  · subst h
    by_cases h1 : k = 1
    · subst h1; exact less_ints n n' s s' w
    · exact less_texts k n n' s s' w hs hs' h1
  · exact less_kinds k n k' n' s s' w h
theorem form_ok (k n : Int) (s : ByteArray) (w : World) (hs : s.size ≤ maxLen) (b : Bool) (h : Hid (formB k n s.data.toList = b)) :
    Calls Tryd.prog 12 #[val k n s] w fun e w' => e = .returned (.bool b) ∧ Below w.heap.size w w' := by
  rw [← h.out]; exact form_any k n s w hs
theorem less_ok (k n k' n' : Int) (s s' : ByteArray) (w : World) (hs : s.size ≤ maxLen) (hs' : s'.size ≤ maxLen) (b : Bool) (h : Hid (lessV k n s.data.toList k' n' s'.data.toList = b)) :
    Calls Tryd.prog 17 #[val k n s, val k' n' s'] w fun e w' => e = .returned (.bool b) ∧ Below w.heap.size w w' := by
  rw [← h.out]; exact less_any k n k' n' s s' w hs hs'
/-- DocCmp's two results. -/
def docR (k n : Int) (s : List UInt8) (k' n' : Int) (s' : List UInt8) : Int × Int :=
  if formB k n s && formB k' n' s' then (if lessV k n s k' n' s' then (-1, 0) else if lessV k' n' s' k n s then (1, 0) else (0, 0)) else (0, 3)
theorem docR_eq (k n : Int) (s : List UInt8) (k' n' : Int) (s' : List UInt8) : docR k n s k' n' s' = cmpR k n s k' n' s' := by
  unfold docR cmpR
  cases h : formB k n s
  · rfl
  · cases h' : formB k' n' s'
    · rfl
    · rw [cmpV_less h h']
      cases lessV k n s k' n' s'
      · cases lessV k' n' s' k n s <;> rfl
      · rfl
def DocPost (k n k' n' : Int) (s s' : ByteArray) (r : Int × Int) : Prop := docR k n s.data.toList k' n' s'.data.toList = r
set_option maxHeartbeats 400000 in
theorem doc_bad1 (k n k' n' : Int) (s s' : ByteArray) (w : World) (hs : s.size ≤ maxLen) (h : Hid (formB k n s.data.toList = false)) :
    Calls Tryd.prog 9 #[val k n s, val k' n' s'] w fun e w' => e = .returned (.tuple #[.int .i64 0, .int .i64 3]) ∧ Below w.heap.size w w' := by
  go_enter Tryd.func9, Tryd.ntmps9
  go_wp2_with fail
  refine (form_ok _ _ _ _ (by assumption) _ (by assumption)).mono ?_
  rintro e w1 ⟨rfl, hb1⟩
  have z1 := hb1.size
  simp only [World.size_alloc] at z1
  have hB : Below w.heap.size w w1 := ((box_below w _).alloc (by simp) _).trans (hb1.mono (by simp; omega))
  go_wp2_with fail
  go_ret2
  exact ⟨rfl, hB⟩
set_option maxHeartbeats 400000 in
theorem doc_bad2 (k n k' n' : Int) (s s' : ByteArray) (w : World) (hs : s.size ≤ maxLen) (hs' : s'.size ≤ maxLen) (h : Hid (formB k n s.data.toList = true)) (h' : Hid (formB k' n' s'.data.toList = false)) :
    Calls Tryd.prog 9 #[val k n s, val k' n' s'] w fun e w' => e = .returned (.tuple #[.int .i64 0, .int .i64 3]) ∧ Below w.heap.size w w' := by
  go_enter Tryd.func9, Tryd.ntmps9
  go_wp2_with fail
  refine (form_ok _ _ _ _ (by assumption) _ (by assumption)).mono ?_
  rintro e w1 ⟨rfl, hb1⟩
  obtain ⟨hc1, hf1⟩ := bcell hb1
  have z1 := hb1.size
  go_wp2_with fail
  refine (form_ok _ _ _ _ (by assumption) _ (by assumption)).mono ?_
  rintro e w2 ⟨rfl, hb2⟩
  simp only [World.size_alloc] at z1
  have hB : Below w.heap.size w w2 := ((box_below w _).alloc (by simp) _).trans ((hb1.trans (hb2.mono (by simp; omega))).mono (by simp; omega))
  go_wp2_with fail
  go_ret2
  exact ⟨rfl, hB⟩
set_option maxRecDepth 100000 in
set_option maxHeartbeats 1000000 in
theorem doc_lt (k n k' n' : Int) (s s' : ByteArray) (w : World) (hs : s.size ≤ maxLen) (hs' : s'.size ≤ maxLen) (h : Hid (formB k n s.data.toList = true)) (h' : Hid (formB k' n' s'.data.toList = true))
    (Hl : Hid (lessV k n s.data.toList k' n' s'.data.toList = true)) :
    Calls Tryd.prog 9 #[val k n s, val k' n' s'] w fun e w' => e = .returned (.tuple #[.int .i64 (-1), .int .i64 0]) ∧ Below w.heap.size w w' := by
  go_enter Tryd.func9, Tryd.ntmps9
  go_wp2_with fail
  refine (form_ok _ _ _ _ (by assumption) _ (by assumption)).mono ?_
  rintro e w1 ⟨rfl, hb1⟩
  obtain ⟨hc1, hf1⟩ := bcell hb1
  have z1 := hb1.size
  go_wp2_with fail
  refine (form_ok _ _ _ _ (by assumption) _ (by assumption)).mono ?_
  rintro e w2 ⟨rfl, hb2⟩
  obtain ⟨hc2, hf2⟩ := bcell hb2
  have z2 := hb2.size
  simp only [World.size_alloc] at z1
  have y1 : w.heap.size < w1.heap.size := by omega
  have y2 : w.heap.size + 1 < w1.heap.size := by omega
  have y3 : w.heap.size < w2.heap.size := by omega
  have y4 : w.heap.size + 1 < w2.heap.size := by omega
  have hB : Below w.heap.size w w2 := ((box_below w _).alloc (by simp) _).trans ((hb1.trans (hb2.mono (by simp; omega))).mono (by simp; omega))
  clear hb1 hb2
  go_wp2_with fail
  refine (less_ok _ _ _ _ _ _ _ (by assumption) (by assumption) _ Hl).mono ?_
  rintro e w3 ⟨rfl, hb3⟩
  obtain ⟨hc3, hf3⟩ := bcell hb3
  have z3 := hb3.size
  have hB3 : Below w.heap.size w w3 := hB.trans (hb3.mono (by omega))
  clear hb3 hB
  go_wp2_with fail
  go_ret2
  exact ⟨rfl, hB3⟩
set_option maxRecDepth 100000 in
set_option maxHeartbeats 1000000 in
theorem doc_gt (k n k' n' : Int) (s s' : ByteArray) (w : World) (hs : s.size ≤ maxLen) (hs' : s'.size ≤ maxLen) (h : Hid (formB k n s.data.toList = true)) (h' : Hid (formB k' n' s'.data.toList = true))
    (Hl : Hid (lessV k n s.data.toList k' n' s'.data.toList = false))
    (Hm : Hid (lessV k' n' s'.data.toList k n s.data.toList = true)) :
    Calls Tryd.prog 9 #[val k n s, val k' n' s'] w fun e w' => e = .returned (.tuple #[.int .i64 1, .int .i64 0]) ∧ Below w.heap.size w w' := by
  go_enter Tryd.func9, Tryd.ntmps9
  go_wp2_with fail
  refine (form_ok _ _ _ _ (by assumption) _ (by assumption)).mono ?_
  rintro e w1 ⟨rfl, hb1⟩
  obtain ⟨hc1, hf1⟩ := bcell hb1
  have z1 := hb1.size
  go_wp2_with fail
  refine (form_ok _ _ _ _ (by assumption) _ (by assumption)).mono ?_
  rintro e w2 ⟨rfl, hb2⟩
  obtain ⟨hc2, hf2⟩ := bcell hb2
  have z2 := hb2.size
  simp only [World.size_alloc] at z1
  have y1 : w.heap.size < w1.heap.size := by omega
  have y2 : w.heap.size + 1 < w1.heap.size := by omega
  have y3 : w.heap.size < w2.heap.size := by omega
  have y4 : w.heap.size + 1 < w2.heap.size := by omega
  have hB : Below w.heap.size w w2 := ((box_below w _).alloc (by simp) _).trans ((hb1.trans (hb2.mono (by simp; omega))).mono (by simp; omega))
  clear hb1 hb2
  go_wp2_with fail
  refine (less_ok _ _ _ _ _ _ _ (by assumption) (by assumption) _ Hl).mono ?_
  rintro e w3 ⟨rfl, hb3⟩
  obtain ⟨hc3, hf3⟩ := bcell hb3
  have z3 := hb3.size
  have hB3 : Below w.heap.size w w3 := hB.trans (hb3.mono (by omega))
  clear hb3 hB
  go_wp2_with fail
  refine (less_ok _ _ _ _ _ _ _ (by assumption) (by assumption) _ Hm).mono ?_
  rintro e w4 ⟨rfl, hb4⟩
  have hB4 : Below w.heap.size w w4 := hB3.trans (hb4.mono (by omega))
  clear hb4 hB3
  go_wp2_with fail
  go_ret2
  exact ⟨rfl, hB4⟩
set_option maxRecDepth 100000 in
set_option maxHeartbeats 1000000 in
theorem doc_eq (k n k' n' : Int) (s s' : ByteArray) (w : World) (hs : s.size ≤ maxLen) (hs' : s'.size ≤ maxLen) (h : Hid (formB k n s.data.toList = true)) (h' : Hid (formB k' n' s'.data.toList = true))
    (Hl : Hid (lessV k n s.data.toList k' n' s'.data.toList = false))
    (Hm : Hid (lessV k' n' s'.data.toList k n s.data.toList = false)) :
    Calls Tryd.prog 9 #[val k n s, val k' n' s'] w fun e w' => e = .returned (.tuple #[.int .i64 0, .int .i64 0]) ∧ Below w.heap.size w w' := by
  go_enter Tryd.func9, Tryd.ntmps9
  go_wp2_with fail
  refine (form_ok _ _ _ _ (by assumption) _ (by assumption)).mono ?_
  rintro e w1 ⟨rfl, hb1⟩
  obtain ⟨hc1, hf1⟩ := bcell hb1
  have z1 := hb1.size
  go_wp2_with fail
  refine (form_ok _ _ _ _ (by assumption) _ (by assumption)).mono ?_
  rintro e w2 ⟨rfl, hb2⟩
  obtain ⟨hc2, hf2⟩ := bcell hb2
  have z2 := hb2.size
  simp only [World.size_alloc] at z1
  have y1 : w.heap.size < w1.heap.size := by omega
  have y2 : w.heap.size + 1 < w1.heap.size := by omega
  have y3 : w.heap.size < w2.heap.size := by omega
  have y4 : w.heap.size + 1 < w2.heap.size := by omega
  have hB : Below w.heap.size w w2 := ((box_below w _).alloc (by simp) _).trans ((hb1.trans (hb2.mono (by simp; omega))).mono (by simp; omega))
  clear hb1 hb2
  go_wp2_with fail
  refine (less_ok _ _ _ _ _ _ _ (by assumption) (by assumption) _ Hl).mono ?_
  rintro e w3 ⟨rfl, hb3⟩
  obtain ⟨hc3, hf3⟩ := bcell hb3
  have z3 := hb3.size
  have hB3 : Below w.heap.size w w3 := hB.trans (hb3.mono (by omega))
  clear hb3 hB
  go_wp2_with fail
  refine (less_ok _ _ _ _ _ _ _ (by assumption) (by assumption) _ Hm).mono ?_
  rintro e w4 ⟨rfl, hb4⟩
  have hB4 : Below w.heap.size w w4 := hB3.trans (hb4.mono (by omega))
  clear hb4 hB3
  go_wp2_with fail
  go_ret2
  exact ⟨rfl, hB4⟩
theorem doc_any (k n k' n' : Int) (s s' : ByteArray) (w : World) (hs : s.size ≤ maxLen) (hs' : s'.size ≤ maxLen) :
    Calls Tryd.prog 9 #[val k n s, val k' n' s'] w fun e w' => e = .returned (.tuple #[.int .i64 (docR k n s.data.toList k' n' s'.data.toList).1, .int .i64 (docR k n s.data.toList k' n' s'.data.toList).2]) ∧ Below w.heap.size w w' := by
  cases h : formB k n s.data.toList
  · have e : docR k n s.data.toList k' n' s'.data.toList = (0, 3) := by unfold docR; rw [h]; rfl
    rw [e]; exact doc_bad1 k n k' n' s s' w hs (Lib.hid h)
  · cases h' : formB k' n' s'.data.toList
    · have e : docR k n s.data.toList k' n' s'.data.toList = (0, 3) := by unfold docR; rw [h, h']; rfl
      rw [e]; exact doc_bad2 k n k' n' s s' w hs hs' (Lib.hid h) (Lib.hid h')
    · cases hl : lessV k n s.data.toList k' n' s'.data.toList
      · cases hm : lessV k' n' s'.data.toList k n s.data.toList
        · have e : docR k n s.data.toList k' n' s'.data.toList = (0, 0) := by unfold docR; rw [h, h', hl, hm]; rfl
          rw [e]; exact doc_eq k n k' n' s s' w hs hs' (Lib.hid h) (Lib.hid h') (Lib.hid hl) (Lib.hid hm)
        · have e : docR k n s.data.toList k' n' s'.data.toList = (1, 0) := by unfold docR; rw [h, h', hl, hm]; rfl
          rw [e]; exact doc_gt k n k' n' s s' w hs hs' (Lib.hid h) (Lib.hid h') (Lib.hid hl) (Lib.hid hm)
      · have e : docR k n s.data.toList k' n' s'.data.toList = (-1, 0) := by unfold docR; rw [h, h', hl]; rfl
        rw [e]; exact doc_lt k n k' n' s s' w hs hs' (Lib.hid h) (Lib.hid h') (Lib.hid hl)
end Go.Proofs.YthmnkbldgpdejaaDoor.Val
