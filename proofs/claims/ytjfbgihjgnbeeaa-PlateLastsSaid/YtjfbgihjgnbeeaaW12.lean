/- plate: some, walked. -/
import Derived.Test.YtjfbgihjgnbeeaaW11
namespace Go.Proofs.Ytjfbgihjgnbeeaa.Pl
open Go Go.RowKit
attribute [local go_sem ↓] Go.wp_at_zero Go.wp_at_succ
theorem som_end {w : World} {b bm k : Nat} {L : List OpV} {W : World} (h : SomI w w.heap.size b bm L k W) (hk : k = min L.length 30) :
    Calls Try.prog 18 #[.pointer (some ⟨b, 0, none⟩)] W fun e w' => e = .returned (.int .i64 0) ∧ ∃ (n : Nat) (v : Value) (F : Nat → Prop), PlateAt w' w.heap.size F b n bm v (ends L) ∧ n ≤ 30 ∧ Below w.heap.size w w' := by
  obtain ⟨v, F, n, h2, h3, h4, h5⟩ := h
  obtain ⟨r1, r2, r3, r4, r5⟩ := ran_ok L k
  refine (flush_any _ _ _ _ _ _ _ W h2 r2 (by omega)).mono ?_
  rintro e w' ⟨rfl, hD⟩
  obtain ⟨v', F', hP, hB, hs⟩ := hD.at h2.low h2.base
  subst hk
  exact ⟨by rw [r3]; rfl, n, v', F', hP, by omega, h4.trans (hB.mono h5)⟩
theorem wrap8 (i : Int) : IntKind.i64.wrap ((IntKind.u64.wrap i).tmod 8) = i % 8 := by
  have h : IntKind.u64.wrap i = i % 18446744073709551616 := by simp [IntKind.wrap, IntKind.bits, IntKind.signed]
  rw [h, Int.tmod_eq_emod_of_nonneg (by omega)]
  simp [IntKind.wrap, IntKind.bits, IntKind.signed]
  omega
set_option maxRecDepth 100000 in
set_option maxHeartbeats 4000000 in
theorem some_any (ao : Option Addr) (n c : Nat) (L : List OpV) (w : World) (hn : L.length = n) (hc : n ≤ maxLen) (hA : OpsAt w ao L) (hr : ∀ o ∈ L, 0 ≤ o.kd ∧ o.kd ≤ 255 ∧ -9223372036854775808 ≤ o.ix ∧ o.ix ≤ 9223372036854775807) :
    Calls Try.prog 13 #[.slice ao n c] w (SomeR L w) := by
  unfold maxLen at hc
  have HN := Lib.hid hn
  have HA := Lib.hid hA
  have HR := Lib.hid hr
  clear hn hA hr
  go_enter Try.func13, Try.ntmps13
  go_wp2_with fail
  refine (new_ok 8 w (by decide) (by decide)).mono ?_
  rintro e w1 ⟨rfl, hP1, hB1⟩
  have HI := Lib.hid (show SomI w w.heap.size (w.heap.size + 1) w.heap.size L 0 w1 from ⟨_, _, 0, hP1, Nat.le_refl _, hB1, Nat.le_refl _⟩)
  clear hP1 hB1
  go_wp2_with fail
  go_loopw [16] (fun i wr => ∃ k : Nat, k ≤ 30 ∧ k ≤ n ∧ i = .int .i64 k ∧ SomI w w.heap.size (w.heap.size + 1) w.heap.size L k wr) (fun i _ => 31 - (intOf i).toNat)
  case atStart => exact ⟨0, by omega, by omega, rfl, HI.out⟩
  case round =>
    obtain ⟨k, hk, hkn, rfl, hI⟩ := hrel
    have HIk := Lib.hid hI
    clear hI HI
    by_cases hlt : k < n
    · have ho : L[k]? = some (L[k]'(by rw [HN.out]; exact hlt)) := List.getElem?_eq_getElem _
      generalize L[k]'(by rw [HN.out]; exact hlt) = o at ho
      obtain ⟨_, _, _, _, _, hBw, _⟩ := HIk.out
      obtain ⟨b, off, bo, m, c', rfl, hb, c0, c1, c2, hbs, hmc, hcm, hsrc, hno⟩ := (HA.out.below hBw) k o ho
      have HO := Lib.hid ho
      have hkd := HR.out o (List.mem_of_getElem? ho)
      have hw : wr.heap.size ≤ wr.heap.size := Nat.le_refl _
      have HI2 := Lib.hid (HIk.out.var (.cells #[.int .u8 o.kd, .int .i64 o.ix, .slice bo m c'] 33))
      have HS2 := Lib.hid (hsrc.below ((Below.refl wr.heap.size wr).alloc (Nat.le_refl _) (.cells #[.int .u8 o.kd, .int .i64 o.ix, .slice bo m c'] 33)))
      have e0 : (wr.alloc (.cells #[.int .u8 o.kd, .int .i64 o.ix, .slice bo m c'] 33)).cell? ⟨wr.heap.size, 0, none⟩ = some (.int .u8 o.kd) := by rw [World.cell?_alloc_new]; rfl
      have e1 : (wr.alloc (.cells #[.int .u8 o.kd, .int .i64 o.ix, .slice bo m c'] 33)).cell? ⟨wr.heap.size, 1, none⟩ = some (.int .i64 o.ix) := by rw [World.cell?_alloc_new]; rfl
      have e2 : (wr.alloc (.cells #[.int .u8 o.kd, .int .i64 o.ix, .slice bo m c'] 33)).cell? ⟨wr.heap.size, 2, none⟩ = some (.slice bo m c') := by rw [World.cell?_alloc_new]; rfl
      obtain ⟨q, hq⟩ : ∃ q : Nat, q = min m 64 := ⟨_, rfl⟩
      have hqm : (if (64 : Int) < (m : Int) then (64 : Int) else (m : Int)) = (q : Int) := by split <;> omega
      have hq0 : (0 : Int) ≤ (q : Int) := by omega
      have hq1 : (q : Int) ≤ (c' : Int) := by omega
      have hql : (o.bs.take 64).length = q := by rw [List.length_take, hbs]; omega
      have hq64 : q ≤ 64 := by omega
      have hqn : bo = none → q = 0 ∧ c' = 0 := fun e => by have := hno e; omega
      have HQL := Lib.hid hql
      have HQN := Lib.hid hqn
      have HBS := Lib.hid hbs
      clear hq hql hqn hbs hno
      by_cases h30 : k < 30
      · have d30 : decide ((30 : Int) ≤ (k : Int)) = false := by simp; omega
        by_cases h0 : o.kd = 0
        · rw [h0] at e0 e1 e2 HI2 HS2
          go_wp2_with fail
          clear c0 c1 c2
          generalize (wr.alloc (.cells #[.int .u8 0, .int .i64 o.ix, .slice bo m c'] 33)) = w2 at *
          generalize wr.heap.size = s at *
          have HT := Lib.hid (show ∀ W, Below w2.heap.size w2 W → Calls Try.prog 15 #[.slice bo q c'] W (TwinR q (o.bs.take 64) W) from fun W hB => twin_any bo q c' _ W HQL.out (by omega) ((HS2.out.below hB).take 64) HQN.out)
          have hw8 := wrap8 o.ix
          have hs2 : s < w2.heap.size := World.block_lt_of_cell? w2 _ e0
          have Y0 := Lib.hid (And.intro e0 (And.intro e1 e2))
          go_region_held3 (fun w' => w'.cell? ⟨s, 0, none⟩ = some (.int .u8 0) ∧ w'.cell? ⟨s, 1, none⟩ = some (.int .i64 o.ix) ∧ w'.cell? ⟨s, 2, none⟩ = some (.slice bo m c'))
            (first | exact ⟨e0, e1, e2⟩ | exact Y3.out | exact Y4.out)
            (first
              | (go_at_call 16; refine (som_write (W := w3) HI3.out HO.out h0 h30 (some ⟨g, 0, none⟩) q cc HQL.out HS3.out).mono ?_; rintro e w4 ⟨rfl, hI4, hc4⟩; have HI4 := Lib.hid hI4; have Y4 := Lib.hid (And.intro ((hc4 0).trans Y3.out.1) (And.intro ((hc4 1).trans Y3.out.2.1) ((hc4 2).trans Y3.out.2.2))); clear hI4 hc4)
              | (go_at_call 15; refine (HT.out _ (Below.refl _ _).drew).mono ?_; rintro e w3 ⟨g, cc, rfl, hOw, hBw⟩; have HI3 := Lib.hid ((HI2.out.below (W' := w2.drew) (Below.refl _ _).drew).below hBw); have HS3 := Lib.hid (own_src hOw (fun x hx => HS2.out.2 x (List.mem_of_mem_take hx))); have Y3 := Lib.hid (And.intro ((hBw.cell (p := ⟨s, 0, none⟩) hs2).trans Y0.out.1) (And.intro ((hBw.cell (p := ⟨s, 1, none⟩) hs2).trans Y0.out.2.1) ((hBw.cell (p := ⟨s, 2, none⟩) hs2).trans Y0.out.2.2))); clear hOw hBw))
          have f0 := Y4.out.1
          clear e0 e1 e2
          go_wp2_with fail
          go_roundw
          case rel => exact ⟨k + 1, by omega, by omega, by go_num, HI4.out⟩
          case measure => simp [intOf]; omega
        · have d0 : (o.kd == 0) = false := by rw [beq_eq_false_iff_ne]; exact h0
          by_cases h1 : o.kd = 1
          · rw [h1] at e0 HI2 d0
            rw [h1] at c0
            have H1 := Lib.hid h1
            go_wp2_with fail
            refine (som_flush HI2.out.plain HO.out H1.out h30).mono ?_
            rintro e w4 ⟨rfl, hI4⟩
            have HI4 := Lib.hid hI4
            clear hI4
            go_wp2_with fail
            go_roundw
            case rel => exact ⟨k + 1, by omega, by omega, by go_num, HI4.out⟩
            case measure => simp [intOf]; omega
          · have d1 : (o.kd == 1) = false := by rw [beq_eq_false_iff_ne]; exact h1
            go_wp2_with fail
            go_roundw
            case rel => exact ⟨k + 1, by omega, by omega, by go_num, HI2.out.plain.skip HO.out h0 h1⟩
            case measure => simp [intOf]; omega
      · have d30 : decide ((30 : Int) ≤ (k : Int)) = true := by simp; omega
        have HE := Lib.hid (som_end HI2.out.plain (by rw [HN.out]; omega))
        go_wp2_with fail
        refine HE.out.mono ?_
        rintro e w4 ⟨rfl, hE⟩
        have HE4 := Lib.hid hE
        clear hE
        go_wp2_with fail
        go_ret2
        obtain ⟨m4, v4, F4, hP4, hm4, hB4⟩ := HE4.out
        exact ⟨_, _, m4, v4, F4, rfl, hP4, hm4, hB4⟩
    · obtain rfl : k = n := by omega
      have HE := Lib.hid (som_end HIk.out (by rw [HN.out]; omega))
      go_wp2_with fail
      refine HE.out.mono ?_
      rintro e w4 ⟨rfl, hE⟩
      have HE4 := Lib.hid hE
      clear hE
      go_wp2_with fail
      go_ret2
      obtain ⟨m4, v4, F4, hP4, hm4, hB4⟩ := HE4.out
      exact ⟨_, _, m4, v4, F4, rfl, hP4, hm4, hB4⟩
end Go.Proofs.Ytjfbgihjgnbeeaa.Pl
