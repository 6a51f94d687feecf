/- The walk of ValueOne. -/
import Derived.Test.YthmnkbldgpdejaaDoorW6
import Derived.Test.YthmnkbldgpdejaaDoorOrd2
namespace Go.Proofs.YthmnkbldgpdejaaDoor.Val
open Go Go.RowKit
set_option maxRecDepth 100000 in
set_option maxHeartbeats 4000000 in
theorem one (k1 n1 k2 n2 k3 n3 : Int) (s1 s2 s3 : ByteArray) (w : World) (hs1 : s1.size ≤ maxLen) (hs2 : s2.size ≤ maxLen) (hs3 : s3.size ≤ maxLen) (htab : Pow w) :
    Calls Tryd.prog 4 #[val k1 n1 s1, val k2 n2 s2, val k3 n3 s3] w fun e w' => e = .returned (.bool true) ∧ Below w.heap.size w w' := by
  go_enter Tryd.func4, Tryd.ntmps4
  go_wp2_with fail
  refine (awake_any _ (Pow.on htab (((box_below w _).alloc (by simp) _).alloc (by simp; omega) _))).mono ?_
  rintro e w1 ⟨rfl, hb1⟩
  obtain ⟨hc1, hf1⟩ := bcell hb1
  have z1 := hb1.size
  simp only [World.size_alloc] at z1
  have hB1 : Below w.heap.size w w1 := (((box_below w _).alloc (by simp) _).alloc (by simp; omega) _).trans (hb1.mono (by simp; omega))
  clear hb1
  have y10 : w.heap.size < w1.heap.size := by omega
  have y11 : w.heap.size + 1 < w1.heap.size := by omega
  have y12 : w.heap.size + 2 < w1.heap.size := by omega
  go_wp2_with fail
  refine (cmp_any _ _ _ _ _ _ _ hs1 hs2).mono ?_
  rintro e w2 ⟨rfl, hb2⟩
  obtain ⟨hc2, hf2⟩ := bcell hb2
  have z2 := hb2.size
  have hB2 : Below w.heap.size w w2 := hB1.trans (hb2.mono (by omega))
  clear hb2 hB1
  have y20 : w.heap.size < w2.heap.size := by omega
  have y21 : w.heap.size + 1 < w2.heap.size := by omega
  have y22 : w.heap.size + 2 < w2.heap.size := by omega
  generalize hr0 : cmpR k1 n1 s1.data.toList k2 n2 s2.data.toList = r0
  have Hr0 := Lib.hid hr0
  clear hr0
  go_wp2_with fail
  refine (cmp_any _ _ _ _ _ _ _ hs2 hs3).mono ?_
  rintro e w3 ⟨rfl, hb3⟩
  obtain ⟨hc3, hf3⟩ := bcell hb3
  have z3 := hb3.size
  have hB3 : Below w.heap.size w w3 := hB2.trans (hb3.mono (by omega))
  clear hb3 hB2
  have y30 : w.heap.size < w3.heap.size := by omega
  have y31 : w.heap.size + 1 < w3.heap.size := by omega
  have y32 : w.heap.size + 2 < w3.heap.size := by omega
  generalize hr1 : cmpR k2 n2 s2.data.toList k3 n3 s3.data.toList = r1
  have Hr1 := Lib.hid hr1
  clear hr1
  go_wp2_with fail
  refine (cmp_any _ _ _ _ _ _ _ hs1 hs3).mono ?_
  rintro e w4 ⟨rfl, hb4⟩
  obtain ⟨hc4, hf4⟩ := bcell hb4
  have z4 := hb4.size
  have hB4 : Below w.heap.size w w4 := hB3.trans (hb4.mono (by omega))
  clear hb4 hB3
  have y40 : w.heap.size < w4.heap.size := by omega
  have y41 : w.heap.size + 1 < w4.heap.size := by omega
  have y42 : w.heap.size + 2 < w4.heap.size := by omega
  generalize hr2 : cmpR k1 n1 s1.data.toList k3 n3 s3.data.toList = r2
  have Hr2 := Lib.hid hr2
  clear hr2
  go_wp2_with fail
  refine (cmp_any _ _ _ _ _ _ _ hs2 hs1).mono ?_
  rintro e w5 ⟨rfl, hb5⟩
  obtain ⟨hc5, hf5⟩ := bcell hb5
  have z5 := hb5.size
  have hB5 : Below w.heap.size w w5 := hB4.trans (hb5.mono (by omega))
  clear hb5 hB4
  have y50 : w.heap.size < w5.heap.size := by omega
  have y51 : w.heap.size + 1 < w5.heap.size := by omega
  have y52 : w.heap.size + 2 < w5.heap.size := by omega
  generalize hr3 : cmpR k2 n2 s2.data.toList k1 n1 s1.data.toList = r3
  have Hr3 := Lib.hid hr3
  clear hr3
  cases h1 : formB k1 n1 s1.data.toList
  · have F1 := Lib.hid h1
    obtain rfl : r0 = (0, 3) := by rw [← Hr0.out]; unfold cmpR; rw [h1]; rfl
    clear h1
    go_wp2_with fail
    refine (form_ok _ _ _ _ hs1 _ F1).mono ?_
    rintro e w6 ⟨rfl, hb6⟩
    obtain ⟨hc6, hf6⟩ := bcell hb6
    have z6 := hb6.size
    have hB6 : Below w.heap.size w w6 := hB5.trans (hb6.mono (by omega))
    clear hb6 hB5
    have y60 : w.heap.size < w6.heap.size := by omega
    have y61 : w.heap.size + 1 < w6.heap.size := by omega
    have y62 : w.heap.size + 2 < w6.heap.size := by omega
    go_wp2_with fail
    go_ret
    exact ⟨rfl, hB6⟩
  · have F1 := Lib.hid h1
    cases h2 : formB k2 n2 s2.data.toList
    · have F2 := Lib.hid h2
      obtain rfl : r0 = (0, 3) := by rw [← Hr0.out]; unfold cmpR; rw [h1, h2]; rfl
      clear h1 h2
      go_wp2_with fail
      refine (form_ok _ _ _ _ hs1 _ F1).mono ?_
      rintro e w6 ⟨rfl, hb6⟩
      obtain ⟨hc6, hf6⟩ := bcell hb6
      have z6 := hb6.size
      have hB6 : Below w.heap.size w w6 := hB5.trans (hb6.mono (by omega))
      clear hb6 hB5
      have y60 : w.heap.size < w6.heap.size := by omega
      have y61 : w.heap.size + 1 < w6.heap.size := by omega
      have y62 : w.heap.size + 2 < w6.heap.size := by omega
      go_wp2_with fail
      refine (form_ok _ _ _ _ hs2 _ F2).mono ?_
      rintro e w7 ⟨rfl, hb7⟩
      obtain ⟨hc7, hf7⟩ := bcell hb7
      have z7 := hb7.size
      have hB7 : Below w.heap.size w w7 := hB6.trans (hb7.mono (by omega))
      clear hb7 hB6
      have y70 : w.heap.size < w7.heap.size := by omega
      have y71 : w.heap.size + 1 < w7.heap.size := by omega
      have y72 : w.heap.size + 2 < w7.heap.size := by omega
      go_wp2_with fail
      go_ret
      exact ⟨rfl, hB7⟩
    · have F2 := Lib.hid h2
      cases h3 : formB k3 n3 s3.data.toList
      · have F3 := Lib.hid h3
        obtain rfl : r1 = (0, 3) := by rw [← Hr1.out]; unfold cmpR; rw [h2, h3]; rfl
        obtain rfl : r0 = (cmpV k1 n1 s1.data.toList k2 n2 s2.data.toList, 0) := by rw [← Hr0.out]; unfold cmpR; rw [h1, h2]; rfl
        clear h1 h2 h3
        go_wp2_with fail
        refine (form_ok _ _ _ _ hs1 _ F1).mono ?_
        rintro e w6 ⟨rfl, hb6⟩
        obtain ⟨hc6, hf6⟩ := bcell hb6
        have z6 := hb6.size
        have hB6 : Below w.heap.size w w6 := hB5.trans (hb6.mono (by omega))
        clear hb6 hB5
        have y60 : w.heap.size < w6.heap.size := by omega
        have y61 : w.heap.size + 1 < w6.heap.size := by omega
        have y62 : w.heap.size + 2 < w6.heap.size := by omega
        go_wp2_with fail
        refine (form_ok _ _ _ _ hs2 _ F2).mono ?_
        rintro e w7 ⟨rfl, hb7⟩
        obtain ⟨hc7, hf7⟩ := bcell hb7
        have z7 := hb7.size
        have hB7 : Below w.heap.size w w7 := hB6.trans (hb7.mono (by omega))
        clear hb7 hB6
        have y70 : w.heap.size < w7.heap.size := by omega
        have y71 : w.heap.size + 1 < w7.heap.size := by omega
        have y72 : w.heap.size + 2 < w7.heap.size := by omega
        go_wp2_with fail
        refine (form_ok _ _ _ _ hs3 _ F3).mono ?_
        rintro e w8 ⟨rfl, hb8⟩
        obtain ⟨hc8, hf8⟩ := bcell hb8
        have z8 := hb8.size
        have hB8 : Below w.heap.size w w8 := hB7.trans (hb8.mono (by omega))
        clear hb8 hB7
        have y80 : w.heap.size < w8.heap.size := by omega
        have y81 : w.heap.size + 1 < w8.heap.size := by omega
        have y82 : w.heap.size + 2 < w8.heap.size := by omega
        go_wp2_with fail
        go_ret
        exact ⟨rfl, hB8⟩
      · have F3 := Lib.hid h3
        have G0 : r0 = (cmpV k1 n1 s1.data.toList k2 n2 s2.data.toList, 0) := by rw [← Hr0.out]; unfold cmpR; rw [h1, h2]; rfl
        have G1 : r1 = (cmpV k2 n2 s2.data.toList k3 n3 s3.data.toList, 0) := by rw [← Hr1.out]; unfold cmpR; rw [h2, h3]; rfl
        have G2 : r2 = (cmpV k1 n1 s1.data.toList k3 n3 s3.data.toList, 0) := by rw [← Hr2.out]; unfold cmpR; rw [h1, h3]; rfl
        have G3 : r3 = (cmpV k2 n2 s2.data.toList k1 n1 s1.data.toList, 0) := by rw [← Hr3.out]; unfold cmpR; rw [h1, h2]; rfl
        have hmid := cmpV_mid k1 n1 s1.data.toList k2 n2 s2.data.toList k3 n3 s3.data.toList
        have hx := cmpV_rng k1 n1 s1.data.toList k2 n2 s2.data.toList
        have hy := cmpV_rng k2 n2 s2.data.toList k3 n3 s3.data.toList
        have hz := cmpV_rng k1 n1 s1.data.toList k3 n3 s3.data.toList
        have hneg := cmpV_neg k1 n1 s1.data.toList k2 n2 s2.data.toList
        have h0 := @cmpV_zero k1 n1 s1.data.toList k2 n2 s2.data.toList
        clear h1 h2 h3 Hr0 Hr1 Hr2 Hr3
        rw [hneg] at G3
        generalize cmpV k1 n1 s1.data.toList k2 n2 s2.data.toList = x at *
        generalize cmpV k2 n2 s2.data.toList k3 n3 s3.data.toList = y at *
        generalize cmpV k1 n1 s1.data.toList k3 n3 s3.data.toList = z at *
        subst G0; subst G1; subst G2; subst G3
        clear hneg
        unfold Mid at hmid
        have hne : x ≠ 0 → k1 ≠ k2 ∨ (k1 = k2 ∧ n1 ≠ n2) ∨ (k1 = k2 ∧ n1 = n2 ∧ ¬ s1.toList = s2.toList) := fun hx0 => by
          by_cases a : k1 = k2
          · by_cases b : n1 = n2
            · exact .inr (.inr ⟨a, b, fun c => hx0 (h0.2 ⟨a, b, by rw [ByteArray.toList_eq, ByteArray.toList_eq] at c; exact c⟩)⟩)
            · exact .inr (.inl ⟨a, b⟩)
          · exact .inl a
        have heq : x = 0 → k1 = k2 ∧ n1 = n2 ∧ s1 = s2 := fun hx0 => by
          obtain ⟨a, b, c⟩ := h0.1 hx0
          exact ⟨a, b, ByteArray.ext (Array.ext' c)⟩
        clear h0
        rcases hx with rfl | rfl | rfl
        · have hne := hne (by omega)
          clear heq
          rcases hy with rfl | rfl | rfl
          · obtain rfl : z = -1 := by have := hmid (by omega) (by omega); omega
            clear hz hmid
            rcases hne with a | ⟨rfl, a⟩ | ⟨rfl, rfl, a⟩
            all_goals
              go_wp2_with fail
              go_ret
              exact ⟨rfl, hB5⟩
          · obtain rfl : z = -1 := by have := hmid (by omega) (by omega); omega
            clear hz hmid
            rcases hne with a | ⟨rfl, a⟩ | ⟨rfl, rfl, a⟩
            all_goals
              go_wp2_with fail
              go_ret
              exact ⟨rfl, hB5⟩
          · clear hz hmid
            rcases hne with a | ⟨rfl, a⟩ | ⟨rfl, rfl, a⟩
            all_goals
              go_wp2_with fail
              go_ret
              exact ⟨rfl, hB5⟩
        · obtain ⟨rfl, rfl, rfl⟩ := heq rfl
          clear hne heq
          rcases hy with rfl | rfl | rfl
          · obtain rfl : z = -1 := by have := hmid (by omega) (by omega); omega
            clear hz hmid
            go_wp2_with fail
            go_ret
            exact ⟨rfl, hB5⟩
          · obtain rfl : z = 0 := by have := hmid (by omega) (by omega); omega
            clear hz hmid
            go_wp2_with fail
            go_ret
            exact ⟨rfl, hB5⟩
          · clear hz hmid
            go_wp2_with fail
            go_ret
            exact ⟨rfl, hB5⟩
        · have hne := hne (by omega)
          clear heq hz hmid hy
          rcases hne with a | ⟨rfl, a⟩ | ⟨rfl, rfl, a⟩
          all_goals
            go_wp2_with fail
            go_ret
            exact ⟨rfl, hB5⟩
end Go.Proofs.YthmnkbldgpdejaaDoor.Val
