/- The walks of read and Parse. -/
import Derived.Test.YthmnkbldgpdejaaDoorW10
import Derived.Test.YthmnkbldgpdejaaDoorShelf2
namespace Go.Proofs.YthmnkbldgpdejaaDoor.Val
open Go Go.RowKit
/-- The two errors that strconv hands out are in their variables. -/
def ErrV (w : World) : Prop := (∃ ev, w.cell? ⟨1, 0, none⟩ = some ev ∧ (ev = .nilIface ∨ ∃ te pe, ev = .iface te pe)) ∧ (∃ ev, w.cell? ⟨2, 0, none⟩ = some ev ∧ (ev = .nilIface ∨ ∃ te pe, ev = .iface te pe))
theorem ErrV.on {w w1 : World} (h : ErrV w) (hb : Below w.heap.size w w1) : ErrV w1 := by
  obtain ⟨⟨e1, a1, b1⟩, ⟨e2, a2, b2⟩⟩ := h
  exact ⟨⟨e1, (hb.cell (World.block_lt_of_cell? _ _ a1)).trans a1, b1⟩, ⟨e2, (hb.cell (World.block_lt_of_cell? _ _ a2)).trans a2, b2⟩⟩
def quoB (s : ByteArray) : Bool := decide (2 ≤ s.size) && (Lib.hasPrefix s.data.toList [39] && Lib.hasSuffix s.data.toList [39])
abbrev inner (s : ByteArray) : ByteArray := s.extract 1 (s.size - 1)
/-- What a text may be the text of: whether in form or not; and whether it is one. -/
def readR (s : ByteArray) : Int × Int × ByteArray × Bool :=
  if s = eno then (0, 0, e0, true) else if quoB s then (2, 0, inner s, true) else match numB s.data.toList with
    | some n => (1, n, e0, true)
    | none => (0, 0, e0, false)
def ReadPost (s : ByteArray) (w : World) (e : Ending) (w' : World) : Prop :=
  e = .returned (.tuple #[val (readR s).1 (readR s).2.1 (readR s).2.2.1, .bool (readR s).2.2.2]) ∧ Below w.heap.size w w'
set_option maxHeartbeats 400000 in
theorem read_none (w : World) : Calls Tryd.prog 25 #[.string eno] w fun e w' => e = .returned (.tuple #[val 0 0 e0, .bool true]) ∧ Below w.heap.size w w' := by
  go_enter Tryd.func25, Tryd.ntmps25
  go_wp2_with fail
  exact bodyPost_ret (v := .tuple #[val 0 0 e0, .bool true]) (by simp [results, Tryd.results25, go_sem]) rfl ⟨rfl, box_below _ _⟩
set_option maxHeartbeats 400000 in
theorem read_quo (s : ByteArray) (w : World) (hs : s.size ≤ maxLen) (h : (s.toList == [110, 111, 110, 101]) = false) (h2 : 2 ≤ s.size) (hp : Hid (Lib.hasPrefix s.data.toList q1.data.toList = true)) (hx : Hid (Lib.hasSuffix s.data.toList q1.data.toList = true)) :
    Calls Tryd.prog 25 #[.string s] w fun e w' => e = .returned (.tuple #[val 2 0 (inner s), .bool true]) ∧ Below w.heap.size w w' := by
  have hs' := hs
  unfold maxLen at hs'
  go_enter Tryd.func25, Tryd.ntmps25
  go_wp2_with fail
  refine (Tryd.strings_HasPrefix _ _ _).mono ?_
  rw [hp.out]
  rintro e w1 ⟨rfl, rfl⟩
  go_wp2_with fail
  refine (Tryd.strings_HasSuffix _ _ _ hs).mono ?_
  rw [hx.out]
  rintro e w1 ⟨rfl, rfl⟩
  go_wp2_with fail
  exact bodyPost_ret (v := .tuple #[val 2 0 (inner s), .bool true]) (by simp [results, Tryd.results25, go_sem]) rfl ⟨rfl, box_below _ _⟩
theorem below_bytes {w w' : World} (h : w' = w ∨ ∃ t, w' = Lib.bytesWorld w 5 t) : Below w.heap.size w w' := by
  rcases h with rfl | ⟨t, rfl⟩
  · exact Below.refl _ _
  · exact Lib.bytesWorld_below _ _ _
set_option maxHeartbeats 400000 in
theorem read_short_yes (s : ByteArray) (w : World) (hs : s.size ≤ maxLen) (hlim : s.size ≤ 281474976710656) (htab : Pow w) (hev : ErrV w) (h : (s.toList == [110, 111, 110, 101]) = false) (h2 : s.size < 2) (v : Int) (hv : Hid (Lib.parseIntB 64 s.data.toList = .ok v)) (heq : Hid ((⟨(Lib.itoa v).toArray⟩ : ByteArray) = s)) :
    Calls Tryd.prog 25 #[.string s] w fun e w' => e = .returned (.tuple #[val 1 v e0, .bool true]) ∧ Below w.heap.size w w' := by
  have hs' := hs
  unfold maxLen at hs'
  go_enter Tryd.func25, Tryd.ntmps25
  go_wp2_with fail
  have hr := intB_rng hv.out
  refine (Tryd.strconv_ParseInt_10_at64_ok _ (by omega) _ hv.out _).mono ?_
  rintro e w1 ⟨rfl, hw1⟩
  have hB1 : Below w.heap.size w w1 := (box_below w _).trans ((below_bytes hw1).mono (by simp))
  obtain ⟨hc1, hf1⟩ := bcell (below_bytes hw1)
  have z1 := (below_bytes hw1).size
  simp only [World.size_alloc] at z1
  have y1 : w.heap.size < w1.heap.size := by omega
  clear hw1
  go_wp2_with fail
  refine (Tryd.strconv_FormatInt_10 _ hr.1 hr.2 _ (Pow.on htab hB1)).mono ?_
  rw [heq.out]
  rintro e w2 ⟨rfl, kk, os, rfl⟩
  have hB2 := hB1.trans (Lib.below_grow w.heap.size w1 hB1.size kk os)
  obtain ⟨hc2, hf2⟩ := bcell (Lib.below_grow w1.heap.size w1 (Nat.le_refl _) kk os)
  have z2 := (Lib.below_grow w1.heap.size w1 (Nat.le_refl _) kk os).size
  clear hB1
  generalize Sort.grow (w1.drewN kk) os = w3 at *
  have y2 : w.heap.size < w3.heap.size := by omega
  go_wp2_with fail
  exact bodyPost_ret (v := .tuple #[val 1 v e0, .bool true]) (by simp [results, Tryd.results25, go_sem, *]) rfl ⟨rfl, ((hB2.setCell (Nat.le_refl _) _).setCell (Nat.le_refl _) _).setCell (Nat.le_refl _) _⟩
set_option maxHeartbeats 400000 in
theorem read_short_other (s : ByteArray) (w : World) (hs : s.size ≤ maxLen) (hlim : s.size ≤ 281474976710656) (htab : Pow w) (hev : ErrV w) (h : (s.toList == [110, 111, 110, 101]) = false) (h2 : s.size < 2) (v : Int) (hv : Hid (Lib.parseIntB 64 s.data.toList = .ok v)) (heq : ∀ x : ByteArray, x = (⟨(Lib.itoa v).toArray⟩ : ByteArray) → (x.toList == s.toList) = false) :
    Calls Tryd.prog 25 #[.string s] w fun e w' => e = .returned (.tuple #[val 0 0 e0, .bool false]) ∧ Below w.heap.size w w' := by
  have hs' := hs
  unfold maxLen at hs'
  go_enter Tryd.func25, Tryd.ntmps25
  go_wp2_with fail
  have hr := intB_rng hv.out
  refine (Tryd.strconv_ParseInt_10_at64_ok _ (by omega) _ hv.out _).mono ?_
  rintro e w1 ⟨rfl, hw1⟩
  have hB1 : Below w.heap.size w w1 := (box_below w _).trans ((below_bytes hw1).mono (by simp))
  obtain ⟨hc1, hf1⟩ := bcell (below_bytes hw1)
  have z1 := (below_bytes hw1).size
  simp only [World.size_alloc] at z1
  have y1 : w.heap.size < w1.heap.size := by omega
  clear hw1
  have Heq := Lib.hid heq
  clear heq
  go_wp2_with fail
  refine (Tryd.strconv_FormatInt_10 _ hr.1 hr.2 _ (Pow.on htab hB1)).mono ?_
  have hx := Heq.out _ rfl
  clear Heq
  generalize (⟨(Lib.itoa v).toArray⟩ : ByteArray) = x at *
  rintro e w2 ⟨rfl, kk, os, rfl⟩
  have hB2 := hB1.trans (Lib.below_grow w.heap.size w1 hB1.size kk os)
  obtain ⟨hc2, hf2⟩ := bcell (Lib.below_grow w1.heap.size w1 (Nat.le_refl _) kk os)
  have z2 := (Lib.below_grow w1.heap.size w1 (Nat.le_refl _) kk os).size
  clear hB1
  generalize Sort.grow (w1.drewN kk) os = w3 at *
  have y2 : w.heap.size < w3.heap.size := by omega
  go_wp2_with fail
  exact bodyPost_ret (v := .tuple #[val 0 0 e0, .bool false]) (by simp [results, Tryd.results25, go_sem, *]) rfl ⟨rfl, ((hB2.setCell (Nat.le_refl _) _).setCell (Nat.le_refl _) _).setCell (Nat.le_refl _) _⟩
set_option maxHeartbeats 400000 in
theorem read_short_fails (s : ByteArray) (w : World) (hs : s.size ≤ maxLen) (hlim : s.size ≤ 281474976710656) (htab : Pow w) (hev : ErrV w) (h : (s.toList == [110, 111, 110, 101]) = false) (h2 : s.size < 2) (hv : ∀ v, Lib.parseIntB 64 s.data.toList ≠ .ok v) :
    Calls Tryd.prog 25 #[.string s] w fun e w' => e = .returned (.tuple #[val 0 0 e0, .bool false]) ∧ Below w.heap.size w w' := by
  have Hv := Lib.hid hv
  clear hv
  have hs' := hs
  unfold maxLen at hs'
  go_enter Tryd.func25, Tryd.ntmps25
  go_wp2_with fail
  refine (Tryd.strconv_ParseInt_fails _ (by omega) Hv.out _ (ErrV.on hev (box_below w _)).1 (ErrV.on hev (box_below w _)).2).mono ?_
  rintro e w3 ⟨⟨x, N, rfl⟩, hb1⟩
  have hB2 : Below w.heap.size w w3 := (box_below w _).trans (hb1.mono (by simp))
  obtain ⟨hc1, hf1⟩ := bcell hb1
  have z1 := hb1.size
  simp only [World.size_alloc] at z1
  have y1 : w.heap.size < w3.heap.size := by omega
  clear hb1
  go_wp2_with fail
  exact bodyPost_ret (v := .tuple #[val 0 0 e0, .bool false]) (by simp [results, Tryd.results25, go_sem, *]) rfl ⟨rfl, ((hB2.setCell (Nat.le_refl _) _).setCell (Nat.le_refl _) _).setCell (Nat.le_refl _) _⟩
set_option maxHeartbeats 400000 in
theorem read_nopre_yes (s : ByteArray) (w : World) (hs : s.size ≤ maxLen) (hlim : s.size ≤ 281474976710656) (htab : Pow w) (hev : ErrV w) (h : (s.toList == [110, 111, 110, 101]) = false) (h2 : 2 ≤ s.size) (hp : Hid (Lib.hasPrefix s.data.toList q1.data.toList = false)) (v : Int) (hv : Hid (Lib.parseIntB 64 s.data.toList = .ok v)) (heq : Hid ((⟨(Lib.itoa v).toArray⟩ : ByteArray) = s)) :
    Calls Tryd.prog 25 #[.string s] w fun e w' => e = .returned (.tuple #[val 1 v e0, .bool true]) ∧ Below w.heap.size w w' := by
  have hs' := hs
  unfold maxLen at hs'
  go_enter Tryd.func25, Tryd.ntmps25
  go_wp2_with fail
  refine (Tryd.strings_HasPrefix _ _ _).mono ?_
  rw [hp.out]
  rintro e w1 ⟨rfl, rfl⟩
  go_wp2_with fail
  have hr := intB_rng hv.out
  refine (Tryd.strconv_ParseInt_10_at64_ok _ (by omega) _ hv.out _).mono ?_
  rintro e w1 ⟨rfl, hw1⟩
  have hB1 : Below w.heap.size w w1 := (box_below w _).trans ((below_bytes hw1).mono (by simp))
  obtain ⟨hc1, hf1⟩ := bcell (below_bytes hw1)
  have z1 := (below_bytes hw1).size
  simp only [World.size_alloc] at z1
  have y1 : w.heap.size < w1.heap.size := by omega
  clear hw1
  go_wp2_with fail
  refine (Tryd.strconv_FormatInt_10 _ hr.1 hr.2 _ (Pow.on htab hB1)).mono ?_
  rw [heq.out]
  rintro e w2 ⟨rfl, kk, os, rfl⟩
  have hB2 := hB1.trans (Lib.below_grow w.heap.size w1 hB1.size kk os)
  obtain ⟨hc2, hf2⟩ := bcell (Lib.below_grow w1.heap.size w1 (Nat.le_refl _) kk os)
  have z2 := (Lib.below_grow w1.heap.size w1 (Nat.le_refl _) kk os).size
  clear hB1
  generalize Sort.grow (w1.drewN kk) os = w3 at *
  have y2 : w.heap.size < w3.heap.size := by omega
  go_wp2_with fail
  exact bodyPost_ret (v := .tuple #[val 1 v e0, .bool true]) (by simp [results, Tryd.results25, go_sem, *]) rfl ⟨rfl, ((hB2.setCell (Nat.le_refl _) _).setCell (Nat.le_refl _) _).setCell (Nat.le_refl _) _⟩
set_option maxHeartbeats 400000 in
theorem read_nopre_other (s : ByteArray) (w : World) (hs : s.size ≤ maxLen) (hlim : s.size ≤ 281474976710656) (htab : Pow w) (hev : ErrV w) (h : (s.toList == [110, 111, 110, 101]) = false) (h2 : 2 ≤ s.size) (hp : Hid (Lib.hasPrefix s.data.toList q1.data.toList = false)) (v : Int) (hv : Hid (Lib.parseIntB 64 s.data.toList = .ok v)) (heq : ∀ x : ByteArray, x = (⟨(Lib.itoa v).toArray⟩ : ByteArray) → (x.toList == s.toList) = false) :
    Calls Tryd.prog 25 #[.string s] w fun e w' => e = .returned (.tuple #[val 0 0 e0, .bool false]) ∧ Below w.heap.size w w' := by
  have hs' := hs
  unfold maxLen at hs'
  go_enter Tryd.func25, Tryd.ntmps25
  go_wp2_with fail
  refine (Tryd.strings_HasPrefix _ _ _).mono ?_
  rw [hp.out]
  rintro e w1 ⟨rfl, rfl⟩
  go_wp2_with fail
  have hr := intB_rng hv.out
  refine (Tryd.strconv_ParseInt_10_at64_ok _ (by omega) _ hv.out _).mono ?_
  rintro e w1 ⟨rfl, hw1⟩
  have hB1 : Below w.heap.size w w1 := (box_below w _).trans ((below_bytes hw1).mono (by simp))
  obtain ⟨hc1, hf1⟩ := bcell (below_bytes hw1)
  have z1 := (below_bytes hw1).size
  simp only [World.size_alloc] at z1
  have y1 : w.heap.size < w1.heap.size := by omega
  clear hw1
  have Heq := Lib.hid heq
  clear heq
  go_wp2_with fail
  refine (Tryd.strconv_FormatInt_10 _ hr.1 hr.2 _ (Pow.on htab hB1)).mono ?_
  have hx := Heq.out _ rfl
  clear Heq
  generalize (⟨(Lib.itoa v).toArray⟩ : ByteArray) = x at *
  rintro e w2 ⟨rfl, kk, os, rfl⟩
  have hB2 := hB1.trans (Lib.below_grow w.heap.size w1 hB1.size kk os)
  obtain ⟨hc2, hf2⟩ := bcell (Lib.below_grow w1.heap.size w1 (Nat.le_refl _) kk os)
  have z2 := (Lib.below_grow w1.heap.size w1 (Nat.le_refl _) kk os).size
  clear hB1
  generalize Sort.grow (w1.drewN kk) os = w3 at *
  have y2 : w.heap.size < w3.heap.size := by omega
  go_wp2_with fail
  exact bodyPost_ret (v := .tuple #[val 0 0 e0, .bool false]) (by simp [results, Tryd.results25, go_sem, *]) rfl ⟨rfl, ((hB2.setCell (Nat.le_refl _) _).setCell (Nat.le_refl _) _).setCell (Nat.le_refl _) _⟩
set_option maxHeartbeats 400000 in
theorem read_nopre_fails (s : ByteArray) (w : World) (hs : s.size ≤ maxLen) (hlim : s.size ≤ 281474976710656) (htab : Pow w) (hev : ErrV w) (h : (s.toList == [110, 111, 110, 101]) = false) (h2 : 2 ≤ s.size) (hp : Hid (Lib.hasPrefix s.data.toList q1.data.toList = false)) (hv : ∀ v, Lib.parseIntB 64 s.data.toList ≠ .ok v) :
    Calls Tryd.prog 25 #[.string s] w fun e w' => e = .returned (.tuple #[val 0 0 e0, .bool false]) ∧ Below w.heap.size w w' := by
  have Hv := Lib.hid hv
  clear hv
  have hs' := hs
  unfold maxLen at hs'
  go_enter Tryd.func25, Tryd.ntmps25
  go_wp2_with fail
  refine (Tryd.strings_HasPrefix _ _ _).mono ?_
  rw [hp.out]
  rintro e w1 ⟨rfl, rfl⟩
  go_wp2_with fail
  refine (Tryd.strconv_ParseInt_fails _ (by omega) Hv.out _ (ErrV.on hev (box_below w _)).1 (ErrV.on hev (box_below w _)).2).mono ?_
  rintro e w3 ⟨⟨x, N, rfl⟩, hb1⟩
  have hB2 : Below w.heap.size w w3 := (box_below w _).trans (hb1.mono (by simp))
  obtain ⟨hc1, hf1⟩ := bcell hb1
  have z1 := hb1.size
  simp only [World.size_alloc] at z1
  have y1 : w.heap.size < w3.heap.size := by omega
  clear hb1
  go_wp2_with fail
  exact bodyPost_ret (v := .tuple #[val 0 0 e0, .bool false]) (by simp [results, Tryd.results25, go_sem, *]) rfl ⟨rfl, ((hB2.setCell (Nat.le_refl _) _).setCell (Nat.le_refl _) _).setCell (Nat.le_refl _) _⟩
set_option maxHeartbeats 400000 in
theorem read_nosuf_yes (s : ByteArray) (w : World) (hs : s.size ≤ maxLen) (hlim : s.size ≤ 281474976710656) (htab : Pow w) (hev : ErrV w) (h : (s.toList == [110, 111, 110, 101]) = false) (h2 : 2 ≤ s.size) (hp : Hid (Lib.hasPrefix s.data.toList q1.data.toList = true)) (hx : Hid (Lib.hasSuffix s.data.toList q1.data.toList = false)) (v : Int) (hv : Hid (Lib.parseIntB 64 s.data.toList = .ok v)) (heq : Hid ((⟨(Lib.itoa v).toArray⟩ : ByteArray) = s)) :
    Calls Tryd.prog 25 #[.string s] w fun e w' => e = .returned (.tuple #[val 1 v e0, .bool true]) ∧ Below w.heap.size w w' := by
  have hs' := hs
  unfold maxLen at hs'
  go_enter Tryd.func25, Tryd.ntmps25
  go_wp2_with fail
  refine (Tryd.strings_HasPrefix _ _ _).mono ?_
  rw [hp.out]
  rintro e w1 ⟨rfl, rfl⟩
  go_wp2_with fail
  refine (Tryd.strings_HasSuffix _ _ _ hs).mono ?_
  rw [hx.out]
  rintro e w1 ⟨rfl, rfl⟩
  go_wp2_with fail
  have hr := intB_rng hv.out
  refine (Tryd.strconv_ParseInt_10_at64_ok _ (by omega) _ hv.out _).mono ?_
  rintro e w1 ⟨rfl, hw1⟩
  have hB1 : Below w.heap.size w w1 := (box_below w _).trans ((below_bytes hw1).mono (by simp))
  obtain ⟨hc1, hf1⟩ := bcell (below_bytes hw1)
  have z1 := (below_bytes hw1).size
  simp only [World.size_alloc] at z1
  have y1 : w.heap.size < w1.heap.size := by omega
  clear hw1
  go_wp2_with fail
  refine (Tryd.strconv_FormatInt_10 _ hr.1 hr.2 _ (Pow.on htab hB1)).mono ?_
  rw [heq.out]
  rintro e w2 ⟨rfl, kk, os, rfl⟩
  have hB2 := hB1.trans (Lib.below_grow w.heap.size w1 hB1.size kk os)
  obtain ⟨hc2, hf2⟩ := bcell (Lib.below_grow w1.heap.size w1 (Nat.le_refl _) kk os)
  have z2 := (Lib.below_grow w1.heap.size w1 (Nat.le_refl _) kk os).size
  clear hB1
  generalize Sort.grow (w1.drewN kk) os = w3 at *
  have y2 : w.heap.size < w3.heap.size := by omega
  go_wp2_with fail
  exact bodyPost_ret (v := .tuple #[val 1 v e0, .bool true]) (by simp [results, Tryd.results25, go_sem, *]) rfl ⟨rfl, ((hB2.setCell (Nat.le_refl _) _).setCell (Nat.le_refl _) _).setCell (Nat.le_refl _) _⟩
set_option maxHeartbeats 400000 in
theorem read_nosuf_other (s : ByteArray) (w : World) (hs : s.size ≤ maxLen) (hlim : s.size ≤ 281474976710656) (htab : Pow w) (hev : ErrV w) (h : (s.toList == [110, 111, 110, 101]) = false) (h2 : 2 ≤ s.size) (hp : Hid (Lib.hasPrefix s.data.toList q1.data.toList = true)) (hx : Hid (Lib.hasSuffix s.data.toList q1.data.toList = false)) (v : Int) (hv : Hid (Lib.parseIntB 64 s.data.toList = .ok v)) (heq : ∀ x : ByteArray, x = (⟨(Lib.itoa v).toArray⟩ : ByteArray) → (x.toList == s.toList) = false) :
    Calls Tryd.prog 25 #[.string s] w fun e w' => e = .returned (.tuple #[val 0 0 e0, .bool false]) ∧ Below w.heap.size w w' := by
  have hs' := hs
  unfold maxLen at hs'
  go_enter Tryd.func25, Tryd.ntmps25
  go_wp2_with fail
  refine (Tryd.strings_HasPrefix _ _ _).mono ?_
  rw [hp.out]
  rintro e w1 ⟨rfl, rfl⟩
  go_wp2_with fail
  refine (Tryd.strings_HasSuffix _ _ _ hs).mono ?_
  rw [hx.out]
  rintro e w1 ⟨rfl, rfl⟩
  go_wp2_with fail
  have hr := intB_rng hv.out
  refine (Tryd.strconv_ParseInt_10_at64_ok _ (by omega) _ hv.out _).mono ?_
  rintro e w1 ⟨rfl, hw1⟩
  have hB1 : Below w.heap.size w w1 := (box_below w _).trans ((below_bytes hw1).mono (by simp))
  obtain ⟨hc1, hf1⟩ := bcell (below_bytes hw1)
  have z1 := (below_bytes hw1).size
  simp only [World.size_alloc] at z1
  have y1 : w.heap.size < w1.heap.size := by omega
  clear hw1
  have Heq := Lib.hid heq
  clear heq
  go_wp2_with fail
  refine (Tryd.strconv_FormatInt_10 _ hr.1 hr.2 _ (Pow.on htab hB1)).mono ?_
  have hx := Heq.out _ rfl
  clear Heq
  generalize (⟨(Lib.itoa v).toArray⟩ : ByteArray) = x at *
  rintro e w2 ⟨rfl, kk, os, rfl⟩
  have hB2 := hB1.trans (Lib.below_grow w.heap.size w1 hB1.size kk os)
  obtain ⟨hc2, hf2⟩ := bcell (Lib.below_grow w1.heap.size w1 (Nat.le_refl _) kk os)
  have z2 := (Lib.below_grow w1.heap.size w1 (Nat.le_refl _) kk os).size
  clear hB1
  generalize Sort.grow (w1.drewN kk) os = w3 at *
  have y2 : w.heap.size < w3.heap.size := by omega
  go_wp2_with fail
  exact bodyPost_ret (v := .tuple #[val 0 0 e0, .bool false]) (by simp [results, Tryd.results25, go_sem, *]) rfl ⟨rfl, ((hB2.setCell (Nat.le_refl _) _).setCell (Nat.le_refl _) _).setCell (Nat.le_refl _) _⟩
set_option maxHeartbeats 400000 in
theorem read_nosuf_fails (s : ByteArray) (w : World) (hs : s.size ≤ maxLen) (hlim : s.size ≤ 281474976710656) (htab : Pow w) (hev : ErrV w) (h : (s.toList == [110, 111, 110, 101]) = false) (h2 : 2 ≤ s.size) (hp : Hid (Lib.hasPrefix s.data.toList q1.data.toList = true)) (hx : Hid (Lib.hasSuffix s.data.toList q1.data.toList = false)) (hv : ∀ v, Lib.parseIntB 64 s.data.toList ≠ .ok v) :
    Calls Tryd.prog 25 #[.string s] w fun e w' => e = .returned (.tuple #[val 0 0 e0, .bool false]) ∧ Below w.heap.size w w' := by
  have Hv := Lib.hid hv
  clear hv
  have hs' := hs
  unfold maxLen at hs'
  go_enter Tryd.func25, Tryd.ntmps25
  go_wp2_with fail
  refine (Tryd.strings_HasPrefix _ _ _).mono ?_
  rw [hp.out]
  rintro e w1 ⟨rfl, rfl⟩
  go_wp2_with fail
  refine (Tryd.strings_HasSuffix _ _ _ hs).mono ?_
  rw [hx.out]
  rintro e w1 ⟨rfl, rfl⟩
  go_wp2_with fail
  refine (Tryd.strconv_ParseInt_fails _ (by omega) Hv.out _ (ErrV.on hev (box_below w _)).1 (ErrV.on hev (box_below w _)).2).mono ?_
  rintro e w3 ⟨⟨x, N, rfl⟩, hb1⟩
  have hB2 : Below w.heap.size w w3 := (box_below w _).trans (hb1.mono (by simp))
  obtain ⟨hc1, hf1⟩ := bcell hb1
  have z1 := hb1.size
  simp only [World.size_alloc] at z1
  have y1 : w.heap.size < w3.heap.size := by omega
  clear hb1
  go_wp2_with fail
  exact bodyPost_ret (v := .tuple #[val 0 0 e0, .bool false]) (by simp [results, Tryd.results25, go_sem, *]) rfl ⟨rfl, ((hB2.setCell (Nat.le_refl _) _).setCell (Nat.le_refl _) _).setCell (Nat.le_refl _) _⟩
theorem not_none {s : ByteArray} (h : s ≠ eno) : (s.toList == [110, 111, 110, 101]) = false := by
  rw [beq_eq_false_iff_ne, ByteArray.toList_eq]
  exact fun e => h (ByteArray.ext (Array.ext' e))
theorem itoa_eq {s : ByteArray} {v : Int} (h : Lib.itoa v = s.data.toList) : (⟨(Lib.itoa v).toArray⟩ : ByteArray) = s := by rw [h]
theorem itoa_ne {s : ByteArray} {v : Int} (h : Lib.itoa v ≠ s.data.toList) : ∀ x : ByteArray, x = (⟨(Lib.itoa v).toArray⟩ : ByteArray) → (x.toList == s.toList) = false := by
  rintro x rfl
  rw [beq_eq_false_iff_ne, ByteArray.toList_eq, ByteArray.toList_eq]
  exact h
theorem num_not {l : List UInt8} (h : ∀ v, ¬ (Lib.parseIntB 64 l = .ok v ∧ Lib.itoa v = l)) : numB l = none := by
  cases e : numB l with
  | none => rfl
  | some n => exact absurd ((num_iff l n).1 e) (h n)
/-- read: every text. -/
theorem read_any (s : ByteArray) (w : World) (hs : s.size ≤ maxLen) (hlim : s.size ≤ 281474976710656) (htab : Pow w) (hev : ErrV w) : Calls Tryd.prog 25 #[.string s] w (ReadPost s w) := by
  unfold ReadPost readR
  by_cases h : s = eno
  · subst h
    exact read_none w
  · rw [if_neg h]
    have hn := not_none h
    have key : ∀ (way : ∀ v, Hid (Lib.parseIntB 64 s.data.toList = .ok v) → Hid ((⟨(Lib.itoa v).toArray⟩ : ByteArray) = s) → Calls Tryd.prog 25 #[.string s] w fun e w' => e = .returned (.tuple #[val 1 v e0, .bool true]) ∧ Below w.heap.size w w')
        (way2 : ∀ v, Hid (Lib.parseIntB 64 s.data.toList = .ok v) → (∀ x : ByteArray, x = (⟨(Lib.itoa v).toArray⟩ : ByteArray) → (x.toList == s.toList) = false) → Calls Tryd.prog 25 #[.string s] w fun e w' => e = .returned (.tuple #[val 0 0 e0, .bool false]) ∧ Below w.heap.size w w')
        (way3 : (∀ v, Lib.parseIntB 64 s.data.toList ≠ .ok v) → Calls Tryd.prog 25 #[.string s] w fun e w' => e = .returned (.tuple #[val 0 0 e0, .bool false]) ∧ Below w.heap.size w w')
        (hq : quoB s = false), Calls Tryd.prog 25 #[.string s] w fun e w' => e = .returned (.tuple #[val (if quoB s then ((2 : Int), (0 : Int), inner s, true) else match numB s.data.toList with | some n => (1, n, e0, true) | none => (0, 0, e0, false)).1 (if quoB s then ((2 : Int), (0 : Int), inner s, true) else match numB s.data.toList with | some n => (1, n, e0, true) | none => (0, 0, e0, false)).2.1 (if quoB s then ((2 : Int), (0 : Int), inner s, true) else match numB s.data.toList with | some n => (1, n, e0, true) | none => (0, 0, e0, false)).2.2.1, .bool (if quoB s then ((2 : Int), (0 : Int), inner s, true) else match numB s.data.toList with | some n => (1, n, e0, true) | none => (0, 0, e0, false)).2.2.2]) ∧ Below w.heap.size w w' := by
      intro way way2 way3 hq
      rw [hq]
      by_cases hv : ∃ v, Lib.parseIntB 64 s.data.toList = .ok v
      · obtain ⟨v, hv⟩ := hv
        by_cases he : Lib.itoa v = s.data.toList
        · rw [(num_iff _ v).2 ⟨hv, he⟩]
          exact way v (Lib.hid hv) (Lib.hid (itoa_eq he))
        · rw [num_not fun u ⟨a, b⟩ => he (by rw [hv] at a; cases a; exact b)]
          exact way2 v (Lib.hid hv) (itoa_ne he)
      · have hv' : ∀ v, Lib.parseIntB 64 s.data.toList ≠ .ok v := fun v e => hv ⟨v, e⟩
        rw [num_not fun u ⟨a, _⟩ => hv' u a]
        exact way3 hv'
    by_cases h2 : 2 ≤ s.size
    · cases hp : Lib.hasPrefix s.data.toList q1.data.toList
      · exact key (read_nopre_yes s w hs hlim htab hev hn h2 (Lib.hid hp)) (read_nopre_other s w hs hlim htab hev hn h2 (Lib.hid hp)) (read_nopre_fails s w hs hlim htab hev hn h2 (Lib.hid hp))
          (by unfold quoB; rw [show Lib.hasPrefix s.data.toList [39] = false from hp]; simp)
      · cases hx : Lib.hasSuffix s.data.toList q1.data.toList
        · exact key (read_nosuf_yes s w hs hlim htab hev hn h2 (Lib.hid hp) (Lib.hid hx)) (read_nosuf_other s w hs hlim htab hev hn h2 (Lib.hid hp) (Lib.hid hx)) (read_nosuf_fails s w hs hlim htab hev hn h2 (Lib.hid hp) (Lib.hid hx))
            (by unfold quoB; rw [show Lib.hasSuffix s.data.toList [39] = false from hx]; simp)
        · rw [show quoB s = true by unfold quoB; rw [show Lib.hasPrefix s.data.toList [39] = true from hp, show Lib.hasSuffix s.data.toList [39] = true from hx]; simp [h2]]
          exact read_quo s w hs hn h2 (Lib.hid hp) (Lib.hid hx)
    · exact key (read_short_yes s w hs hlim htab hev hn (by omega)) (read_short_other s w hs hlim htab hev hn (by omega)) (read_short_fails s w hs hlim htab hev hn (by omega)) (by unfold quoB; simp [h2])
end Go.Proofs.YthmnkbldgpdejaaDoor.Val
