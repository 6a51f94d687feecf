/- fault: the law on chains, walked. -/
import Derived.Test.YtkhnjgadagkpjaaDoorJ1
namespace Go.Proofs.YtkhnjgadagkpjaaDoor.Flt
open Go Go.RowKit Go.Stop Go.Shelf
set_option maxRecDepth 100000 in
set_option maxHeartbeats 8000000 in
theorem chains_nil (ao : Option Addr) (n c : Nat) (X : Nat → Int × Int) (code : Int) (w : World) (hnc : n ≤ c) (hc : c ≤ maxLen) (hA : At2 w ao X n) (hX : ∀ i, i < n → InR (X i)) (hg : ErrT w) :
    Calls Tryd.prog 3 #[.agg #[.slice ao n c, .int .i64 0], .int .i64 code] w fun e w' => e = .returned (.bool true) ∧ Below w.heap.size w w' := by
  have hb0 := box_below w (.cells #[.slice ao n c, .int .i64 0] 24)
  have k0 : (w.alloc (.cells #[.slice ao n c, .int .i64 0] 24)).cell? ⟨w.heap.size, 0, none⟩ = some (.slice ao n c) := by rw [World.cell?_alloc_new]; rfl
  have k1 : (w.alloc (.cells #[.slice ao n c, .int .i64 0] 24)).cell? ⟨w.heap.size, 1, none⟩ = some (.int .i64 0) := by rw [World.cell?_alloc_new]; rfl
  have HA := Lib.hid (hA.on hb0 (Nat.le_refl _))
  have HG := Lib.hid (hg.on hb0)
  have HB0 := Lib.hid hb0
  have HK := Lib.hid (And.intro k0 k1)
  have HX := Lib.hid hX
  have HL := Lib.hid (And.intro hnc hc)
  clear hA hg hb0 k0 k1 hX hnc hc
  go_enter Tryd.func3, Tryd.ntmps3
  go_wp2_with fail
  generalize hw0 : (w.alloc (.cells #[.slice ao n c, .int .i64 0] 24)) = w0 at *
  have z0 : w.heap.size < w0.heap.size := by rw [← hw0]; simp
  clear hw0
  refine (awake_any _ HG.out).mono ?_
  rintro e w1 ⟨rfl, hb⟩
  have k0 := (hb.cell (p := ⟨w.heap.size, 0, none⟩) z0).trans HK.out.1
  have k1 := (hb.cell (p := ⟨w.heap.size, 1, none⟩) z0).trans HK.out.2
  have HA1 := Lib.hid (HA.out.on hb (Nat.le_refl _))
  have HB1 := Lib.hid (HB0.out.trans (hb.mono HB0.out.size))
  have z1 := Nat.lt_of_lt_of_le z0 hb.size
  clear hb HB0 HA HG HK z0
  go_wp2_with fail
  refine (build_any ao n c X 0 w1 HL.out.1 HL.out.2 HA1.out HX.out).mono ?_
  rintro e w2 ⟨v, ao', n', c', X', rfl, _, _, _, _, _, hv, hb⟩
  obtain rfl : v = .nilIface := by
    rcases hv with ⟨h, _⟩ | ⟨_, h⟩
    · exact absurd rfl h
    · exact h
  have k1' := (hb.cell (p := ⟨w.heap.size, 1, none⟩) z1).trans k1
  have HB2 := Lib.hid (HB1.out.trans (hb.mono HB1.out.size))
  have z2 := Nat.lt_of_lt_of_le z1 hb.size
  clear hb hv k0 k1 z1
  go_wp2_with fail
  have hb3 := box_below w2 (.cells #[.slice ao' n' c', .int .i64 0] 24)
  refine (code_nil _).mono ?_
  rintro e w3 ⟨rfl, rfl⟩
  have HB3 := Lib.hid (HB2.out.trans (hb3.mono HB2.out.size))
  generalize (w2.alloc (.cells #[.slice ao' n' c', .int .i64 0] 24)) = w3 at *
  clear hb3
  go_wp2_with fail
  refine (is_nil 0 _).mono ?_
  rintro e w4 ⟨rfl, hb⟩
  have HB4 := Lib.hid (HB3.out.trans (hb.mono HB3.out.size))
  clear hb
  go_wp2_with fail
  refine (links_nil _).mono ?_
  rintro e w5 ⟨rfl, hb⟩
  have HB5 := Lib.hid (HB4.out.trans (hb.mono HB4.out.size))
  clear hb
  go_wp2_with fail
  refine (text_nil _).mono ?_
  rintro e w6 ⟨rfl, rfl⟩
  by_cases hcode : code = 0
  · subst hcode
    go_wp2_with fail
    go_ret
    exact ⟨rfl, HB5.out⟩
  · have hc0 : (code == 0) = false := by simpa using hcode
    clear hcode
    go_wp2_with fail
    refine (is_nil code _).mono ?_
    rintro e w7 ⟨rfl, hb⟩
    rw [hc0]
    have HB6 := Lib.hid (HB5.out.trans (hb.mono HB5.out.size))
    clear hb
    go_wp2_with fail
    go_ret
    exact ⟨rfl, HB6.out⟩
theorem below_of {w9 wc : World} {A : Prop} (hs : A ∧ Hid (Below w9.heap.size w9 wc)) : Below w9.heap.size w9 wc := hs.2.out
set_option maxRecDepth 100000 in
set_option maxHeartbeats 8000000 in
theorem chains_pos (ao : Option Addr) (n c : Nat) (X : Nat → Int × Int) (r : Int) (code : Int) (w : World) (hnc : n ≤ c) (hc : c ≤ maxLen) (hA : At2 w ao X n) (hX : ∀ i, i < n → InR (X i)) (hg : ErrT w) (hp : ∀ w', Below w.heap.size w w' → Pow w')
    (hr : (r == 0) = false) (r0 : -9223372036854775808 ≤ r) (r1 : r ≤ 9223372036854775807) :
    Calls Tryd.prog 3 #[.agg #[.slice ao n c, .int .i64 r], .int .i64 code] w fun e w' => e = .returned (.bool true) ∧ Below w.heap.size w w' := by
  have hb0 := box_below w (.cells #[.slice ao n c, .int .i64 r] 24)
  have k0 : (w.alloc (.cells #[.slice ao n c, .int .i64 r] 24)).cell? ⟨w.heap.size, 0, none⟩ = some (.slice ao n c) := by rw [World.cell?_alloc_new]; rfl
  have k1 : (w.alloc (.cells #[.slice ao n c, .int .i64 r] 24)).cell? ⟨w.heap.size, 1, none⟩ = some (.int .i64 r) := by rw [World.cell?_alloc_new]; rfl
  have HA := Lib.hid (hA.on hb0 (Nat.le_refl _))
  have HG := Lib.hid (hg.on hb0)
  have HB0 := Lib.hid hb0
  have HK := Lib.hid (And.intro k0 k1)
  have HX := Lib.hid hX
  have HL := Lib.hid (And.intro hnc hc)
  have HP := Lib.hid hp
  have HR := Lib.hid (And.intro r0 r1)
  clear hA hg hb0 k0 k1 hX hnc hc hp r0 r1
  go_enter Tryd.func3, Tryd.ntmps3
  go_wp2_with fail
  generalize hw0 : (w.alloc (.cells #[.slice ao n c, .int .i64 r] 24)) = w0 at *
  have z0 : w.heap.size < w0.heap.size := by rw [← hw0]; simp
  clear hw0
  refine (awake_any _ HG.out).mono ?_
  rintro e w1 ⟨rfl, hb⟩
  have k0 := (hb.cell (p := ⟨w.heap.size, 0, none⟩) z0).trans HK.out.1
  have k1 := (hb.cell (p := ⟨w.heap.size, 1, none⟩) z0).trans HK.out.2
  have HA1 := Lib.hid (HA.out.on hb (Nat.le_refl _))
  have HB1 := Lib.hid (HB0.out.trans (hb.mono HB0.out.size))
  have HG1 := Lib.hid (HG.out.on hb)
  have z1 := Nat.lt_of_lt_of_le z0 hb.size
  clear hb HB0 HA HG HK z0
  go_wp2_with fail
  refine (build_any ao n c X r w1 HL.out.1 HL.out.2 HA1.out HX.out).mono ?_
  rintro e w2 ⟨v, ao', n', c', X', rfl, _, h2, h3, h4, h5, hv, hb⟩
  have hch : Chain w2 v (lst X' n') r := by
    rcases hv with ⟨_, h⟩ | ⟨h, _⟩
    · exact h
    · rw [h] at hr; cases hr
  have k1' := (hb.cell (p := ⟨w.heap.size, 1, none⟩) z1).trans k1
  have hb3 := box_below w2 (.cells #[.slice ao' n' c', .int .i64 r] 24)
  have HB2 := Lib.hid (HB1.out.trans (hb.mono HB1.out.size))
  have HB3 := Lib.hid (HB2.out.trans (hb3.mono HB2.out.size))
  have HKit := Lib.hid (show Kit (w2.alloc (.cells #[.slice ao' n' c', .int .i64 r] 24)) v ao' n' X' r from
    ⟨hch.on hb3 (Nat.le_refl _), (HG1.out.on hb).on hb3, fun w' h => HP.out w' (HB3.out.trans (h.mono HB3.out.size)), h2.on hb3 (Nat.le_refl _), h3, h4, h5, HR.out.1, HR.out.2, hr⟩)
  have z2 := Nat.lt_of_lt_of_le z1 hb.size
  have x1 : (w2.alloc (.cells #[.slice ao' n' c', .int .i64 r] 24)).cell? ⟨w.heap.size, 1, none⟩ = some (.int .i64 r) := cell_old k1' _
  have x2 : (w2.alloc (.cells #[.slice ao' n' c', .int .i64 r] 24)).cell? ⟨w2.heap.size, 0, none⟩ = some (.slice ao' n' c') := by rw [World.cell?_alloc_new]; rfl
  have x3 : (w2.alloc (.cells #[.slice ao' n' c', .int .i64 r] 24)).cell? ⟨w2.heap.size, 1, none⟩ = some (.int .i64 r) := by rw [World.cell?_alloc_new]; rfl
  have HXX := Lib.hid (And.intro x1 (And.intro x2 x3))
  obtain ⟨t, x, rfl⟩ := chain_some hch
  obtain ⟨T, hT⟩ : ∃ T, T = chainT (lst X' n') r := ⟨_, rfl⟩
  obtain ⟨z, hz⟩ : ∃ z, z = (r == code) := ⟨_, rfl⟩
  have hz2 : (code == r) = z := by rw [hz, Bool.eq_iff_iff, beq_iff_eq, beq_iff_eq]; exact ⟨Eq.symm, Eq.symm⟩
  have HT := Lib.hid hT
  have HZ := Lib.hid hz.symm
  have HR0 := Lib.hid hr
  clear hb hv k0 k1 z1 hb3 h2 h3 h4 h5 hch x1 x2 x3 hT hz
  go_wp2_with fail
  generalize (w2.alloc (.cells #[.slice ao' n' c', .int .i64 r] 24)) = w9 at *
  obtain ⟨x1, x2, x3⟩ := HXX.out
  clear k1'
  go_region_held3 (fun w' => (w'.cell? ⟨w.heap.size, 1, none⟩ = some (.int .i64 r) ∧ w'.cell? ⟨w2.heap.size, 0, none⟩ = some (.slice ao' n' c') ∧ w'.cell? ⟨w2.heap.size, 1, none⟩ = some (.int .i64 r)) ∧ Hid (Below w9.heap.size w9 w'))
    (first | exact three_on (by assumption) bN | exact ⟨⟨x1, x2, x3⟩, Lib.hid (Below.refl _ _)⟩ | exact ⟨⟨x1, x2, x3⟩, Lib.hid (Below.refl _ _).drew⟩)
    (first
      | (go_at_call 8; refine (HKit.out.k8 (by assumption)).mono ?_; rintro e wn ⟨rfl, bN⟩)
      | (go_at_call 10; refine (HKit.out.k10 (by assumption)).mono ?_; rintro e wn ⟨g1, c1, rfl, R1, bN⟩)
      | (go_at_call 13; refine (turned_row HKit.out.n1 (Nat.le_trans HKit.out.n30 (by decide)) R1).mono ?_; rintro e wn ⟨g2, c2, rfl, R2, bN⟩)
      | (go_at_call 12; refine (HKit.out.k12 (by assumption) R2).mono ?_; rintro e wn ⟨rfl, bN⟩)
      | (go_at_call 11; refine (HKit.out.k11 (by assumption) HT.out).mono ?_; rintro e wn ⟨rfl, bN⟩)
      | (go_at_call 14; refine (HKit.out.k14 (by assumption) HT.out).mono ?_; rintro e wn ⟨rfl, bN⟩)
      | (go_at_call 9; have hh := N9; clear hh; refine (HKit.out.k9 (by assumption) HR0.out).mono ?_; rintro e wn ⟨rfl, bN⟩)
      | (go_at_call 9; refine (HKit.out.k9 (by assumption) HZ.out).mono ?_; rintro e wn ⟨rfl, bN⟩; have N9 := True.intro))
  all_goals
    have hE := HB3.out.trans ((below_of (w9 := w9) (by assumption)).mono HB3.out.size)
    have HE := Lib.hid hE
    clear hE
    go_wp2_with fail
    go_ret
    exact ⟨rfl, HE.out⟩
end Go.Proofs.YtkhnjgadagkpjaaDoor.Flt
