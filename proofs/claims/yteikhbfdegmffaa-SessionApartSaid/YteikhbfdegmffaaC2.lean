/- session: the law on each request once, walked. -/
import Derived.Test.YteikhbfdegmffaaC1
namespace Go.Proofs.Yteikhbfdegmffaa.Se
open Go Go.RowKit
set_option maxRecDepth 100000 in
set_option maxHeartbeats 8000000 in
theorem once_law (ao : Option Addr) (l cap : Nat) (Os : List OpS) (cl sq : Int) (a : An) (p : Pl) (w : World) (hl : Os.length = l) (hr : RdS w ao Os) (hi : ∀ o ∈ Os, OkS w o) (hlm : l ≤ maxLen) (c0 : 0 ≤ cl) (q0 : 0 ≤ sq) (ha : AnAt w a p) :
    Calls Try.prog 3 #[.slice ao l cap, .int .u8 cl, .int .u32 sq, a.val p] w fun e w' => e = .returned (.bool true) ∧ Below w.heap.size w w' := by
  obtain ⟨c, hc, hc4⟩ : ∃ c : Nat, cl % 4 = (c : Int) ∧ c < 4 := ⟨(cl % 4).toNat, by omega, by omega⟩
  obtain ⟨k, hk, hk4⟩ : ∃ k : Nat, sq % 4 = (k : Int) ∧ k < 4 := ⟨(sq % 4).toNat, by omega, by omega⟩
  unfold maxLen at hlm
  have HL := Lib.hid (And.intro hl (And.intro hr hi))
  obtain ⟨W0, hW0⟩ : ∃ W, w.alloc (.cells #[.int .i64 a.E, .int .i64 a.At, .slice p.vo a.V.length p.vc, .slice p.lo a.L.length p.lc] 28) = W := ⟨_, rfl⟩
  have hb0 : Below w.heap.size w W0 := by rw [← hW0]; exact (Below.refl _ _).alloc (Nat.le_refl _) _
  have hz : W0.heap[w.heap.size]? = some (.cells #[.int .i64 a.E, .int .i64 a.At, .slice p.vo a.V.length p.vc, .slice p.lo a.L.length p.lc] 28 (0, 0)) := by rw [← hW0]; exact heap_alloc_new _ _
  have HX := Lib.hid (And.intro hz (show W0.heap.size = w.heap.size + 1 by rw [← hW0]; simp))
  have HP := Lib.hid (ha.below hb0)
  have HW := Lib.hid hb0
  have HA := Lib.hid (awake_any W0)
  have HB := Lib.hid (show c < 4 ∧ (0 : Int) < 1 + (k : Int) ∧ 1 + (k : Int) ≤ 4 from ⟨hc4, by omega, by omega⟩)
  clear hl hr hi ha hb0 hz
  unfold An.val
  go_enter Try.func3, Try.ntmps3
  go_wp2_with (go_at_call 5; refine HA.out.mono ?_; rintro e w1 ⟨rfl, hb⟩; have A1 := Lib.hid hb; clear hb)
  refine (new_any w1).mono ?_
  rintro e w2 ⟨rfl, h2, _⟩
  have H2 : Hid (TabS W0 w1.heap.size (fun k => k = w1.heap.size) (fun _ => Sm.zero) w2) := Lib.hid (by
    exact ⟨_, h2.tab, h2.ans, A1.out.trans (h2.low.mono A1.out.size), A1.out.size, h2.pb, h2.pl⟩)
  clear h2
  generalize w1.heap.size = b at *
  go_wp2_with fail
  refine (first_start H2.out HB.out.1 HB.out.2.1 HB.out.2.2).mono ?_
  rintro e w3 ⟨rfl, h3⟩
  have H3 := Lib.hid h3
  clear h3
  go_wp2_with fail
  refine (first_busy H3.out HB.out.1 HB.out.2.1 HB.out.2.2).mono ?_
  rintro e w4 ⟨rfl, h4⟩
  have H4 := Lib.hid h4
  obtain ⟨F4, hf4⟩ := h4
  obtain ⟨b0, b1, b2, b3⟩ := cells4 ((hf4.low.block w.heap.size (by have := HX.out.2; omega)).trans HX.out.1)
  have HT := Lib.hid (twin_any a p w4 (HP.out.below hf4.low))
  clear hf4
  unfold An.val at HT
  go_wp2_with fail
  refine HT.out.mono ?_
  rintro e w5 ⟨p5, rfl, ha5, _, hb5⟩
  have H5 := Lib.hid (And.intro ha5 (H4.out.below hb5))
  clear ha5 hb5 b0 b1 b2 b3
  have HF := Lib.hid (first_fin H5.out.2 HB.out.1 HB.out.2.1 HB.out.2.2 H5.out.1)
  unfold An.val at HF ⊢
  go_wp2_with fail
  refine HF.out.mono ?_
  rintro e w6 ⟨rfl, h6⟩
  have H6 := Lib.hid h6
  clear h6
  go_wp2_with fail
  go_loopw [46] (fun u wr => ∃ j : Nat, j ≤ l ∧ u = .int .i64 j ∧ Hid (OnceS W0 b c (1 + (k : Int)) a wr)) (fun u _ => l - (intOf u).toNat)
  case atStart => exact ⟨0, by omega, rfl, H6⟩
  case round =>
    obtain ⟨j, hj, rfl, HR⟩ := hrel
    clear H2 H3 H4 H5 H6 HT HF A1 HA
    by_cases hlt : j < l
    · have j1 : (j : Int) < (l : Int) := by omega
      obtain ⟨o, ho⟩ : ∃ o, Os[j]? = some o := ⟨_, List.getElem?_eq_getElem (by have := HL.out.1; omega)⟩
      have hlow := HW.out.trans (HR.out.low.mono HW.out.size)
      obtain ⟨g, og, rfl, d0, d1, d2, d3, d4, d5, d6⟩ := HL.out.2.1.at_ hlow ho
      have HO := Lib.hid (HL.out.2.2 o (List.mem_of_getElem? ho))
      have HOA := Lib.hid ((HO.out.1.below hlow).below ((Below.refl _ wr).alloc (Nat.le_refl _) (.cells #[.int .u8 o.kd, .int .u8 o.cl, .int .u32 o.sq, .int .i64 o.a.E, .int .i64 o.a.At, .slice o.p.vo o.a.V.length o.p.vc, .slice o.p.lo o.a.L.length o.p.lc] 36)))
      have HR2 := Lib.hid (HR.out.below ((Below.refl _ wr).alloc (Nat.le_refl _) (.cells #[.int .u8 o.kd, .int .u8 o.cl, .int .u32 o.sq, .int .i64 o.a.E, .int .i64 o.a.At, .slice o.p.vo o.a.V.length o.p.vc, .slice o.p.lo o.a.L.length o.p.lc] 36)))
      clear ho hlow
      by_cases h60 : (60 : Int) ≤ (j : Int)
      · go_wp2_with fail
        go_ret
        exact ⟨rfl, HW.out.trans (HR2.out.low.mono HW.out.size)⟩
      · cases k0 : (o.kd == 0)
        · cases k1 : (o.kd == 1)
          · cases k2 : (o.kd == 2)
            · cases k3 : (o.kd == 3)
              · go_wp2_with fail
                refine (HR2.out.done HB.out.1 HB.out.2.1 (by have := HB.out.2.2; omega)).mono ?_
                rintro e w5 ⟨p5, rfl, ha5, ho5⟩
                have H5 := Lib.hid (And.intro (ha5.below ((Below.refl _ w5).alloc (Nat.le_refl _) (.cells #[.int .i64 a.E, .int .i64 a.At, .slice p5.vo a.V.length p5.vc, .slice p5.lo a.L.length p5.lc] 28))) (ho5.below ((Below.refl _ w5).alloc (Nat.le_refl _) (.cells #[.int .i64 a.E, .int .i64 a.At, .slice p5.vo a.V.length p5.vc, .slice p5.lo a.L.length p5.lc] 28))))
                have HS := Lib.hid (same_any a p5 p _ H5.out.1 (HP.out.below H5.out.2.low))
                obtain ⟨b0, b1, b2, b3⟩ := cells4 ((H5.out.2.low.block w.heap.size (by have := HX.out.2; omega)).trans HX.out.1)
                clear ha5 ho5
                unfold An.val at HS ⊢
                go_wp2_with fail
                refine HS.out.mono ?_
                rintro e w6 ⟨rfl, hb6⟩
                have H6 := Lib.hid (H5.out.2.below hb6)
                clear hb6
                go_wp2_with fail
                refine (H6.out.state HB.out.1 HB.out.2.1 (by have := HB.out.2.2; omega)).mono ?_
                rintro e w7 ⟨rfl, h7⟩
                have H7 := Lib.hid h7
                clear h7
                go_wp2_with fail
                exact ⟨⟨j + 1, by omega, by go_num, H7⟩, by simp [intOf]; omega⟩
              · go_wp2_with fail
                refine (HR2.out.fail o.cl o.sq HO.out.2.1.1 HO.out.2.2.1).mono ?_
                rintro e w4 ⟨⟨q4, rfl⟩, h4⟩
                have H4 := Lib.hid h4
                clear h4
                go_wp2_with fail
                refine (H4.out.done HB.out.1 HB.out.2.1 (by have := HB.out.2.2; omega)).mono ?_
                rintro e w5 ⟨p5, rfl, ha5, ho5⟩
                have H5 := Lib.hid (And.intro (ha5.below ((Below.refl _ w5).alloc (Nat.le_refl _) (.cells #[.int .i64 a.E, .int .i64 a.At, .slice p5.vo a.V.length p5.vc, .slice p5.lo a.L.length p5.lc] 28))) (ho5.below ((Below.refl _ w5).alloc (Nat.le_refl _) (.cells #[.int .i64 a.E, .int .i64 a.At, .slice p5.vo a.V.length p5.vc, .slice p5.lo a.L.length p5.lc] 28))))
                have HS := Lib.hid (same_any a p5 p _ H5.out.1 (HP.out.below H5.out.2.low))
                obtain ⟨b0, b1, b2, b3⟩ := cells4 ((H5.out.2.low.block w.heap.size (by have := HX.out.2; omega)).trans HX.out.1)
                clear ha5 ho5
                unfold An.val at HS ⊢
                go_wp2_with fail
                refine HS.out.mono ?_
                rintro e w6 ⟨rfl, hb6⟩
                have H6 := Lib.hid (H5.out.2.below hb6)
                clear hb6
                go_wp2_with fail
                refine (H6.out.state HB.out.1 HB.out.2.1 (by have := HB.out.2.2; omega)).mono ?_
                rintro e w7 ⟨rfl, h7⟩
                have H7 := Lib.hid h7
                clear h7
                go_wp2_with fail
                exact ⟨⟨j + 1, by omega, by go_num, H7⟩, by simp [intOf]; omega⟩
            · by_cases hq : o.cl ≠ (c : Int) ∨ o.sq ≤ 1 + (k : Int)
              · have HQ := Lib.hid hq
                have OC := OpC.made wr o
                have HBK := Lib.hid (show wr.heap.size ≠ b from by have := HR.out.blk; omega)
                have hqq : (o.cl != (c : Int)) = true ∨ ((o.cl != (c : Int)) = false ∧ o.sq ≤ 1 + (k : Int)) := by
                  by_cases e : o.cl = (c : Int)
                  · exact .inr ⟨by simpa using e, hq.resolve_left (fun h => h e)⟩
                  · exact .inl (by simpa using e)
                clear hq
                rcases hqq with q1 | ⟨q1, q2⟩
                · go_wp2_with fail
                  obtain ⟨W, hW⟩ : ∃ W, wr.alloc (.cells #[.int .u8 o.kd, .int .u8 o.cl, .int .u32 o.sq, .int .i64 o.a.E, .int .i64 o.a.At, .slice o.p.vo o.a.V.length o.p.vc, .slice o.p.lo o.a.L.length o.p.lc] 36) = W := ⟨_, rfl⟩
                  rw [hW] at OC HR2 HOA ⊢
                  clear hW
                  obtain ⟨x, hx⟩ : ∃ x, wr.heap.size = x := ⟨_, rfl⟩
                  rw [hx] at OC HBK ⊢
                  clear hx
                  obtain ⟨u1, u2, u3, u4, u5, u6⟩ := id OC
                  go_region_held3 (fun w' => w'.cell? ⟨x, 1, none⟩ = some (.int .u8 o.cl) ∧ w'.cell? ⟨x, 2, none⟩ = some (.int .u32 o.sq) ∧ w'.cell? ⟨x, 3, none⟩ = some (.int .i64 o.a.E) ∧ w'.cell? ⟨x, 4, none⟩ = some (.int .i64 o.a.At) ∧ w'.cell? ⟨x, 5, none⟩ = some (.slice o.p.vo o.a.V.length o.p.vc) ∧ w'.cell? ⟨x, 6, none⟩ = some (.slice o.p.lo o.a.L.length o.p.lc))
                    (first | exact ⟨u1, u2, u3, u4, u5, u6⟩ | exact U2 | exact U1)
                    (first
                      | (go_at_call 9; refine (twin_any o.a o.p _ (HOA.out.below ((Below.refl _ _).drew))).mono ?_; rintro e w1 ⟨p', rfl, ha', _, hb'⟩; have U1 := OC.on (Z := fun _ => False) (below_any ((Below.refl _ W).drew.trans hb')) id; have F1 := Lib.hid (And.intro ha' (HR2.out.below ((Below.refl _ W).drew.trans hb'))); clear ha' hb'; unfold An.val)
                      | (go_at_call 8; refine (F1.out.2.fin o.cl o.sq HO.out.2.1.1 HO.out.2.2.1 HO.out.2.2.2 HQ.out F1.out.1).mono ?_; rintro e w2 ⟨⟨q2, rfl⟩, h2, hd2⟩; have U2 := OpC.on U1 hd2 HBK.out; have F2 := Lib.hid h2; clear h2 hd2))
                  all_goals (
                    go_wp2_with fail
                    refine (F2.out.done HB.out.1 HB.out.2.1 (by have := HB.out.2.2; omega)).mono ?_
                    rintro e w5 ⟨p5, rfl, ha5, ho5⟩
                    have H5 := Lib.hid (And.intro (ha5.below ((Below.refl _ w5).alloc (Nat.le_refl _) (.cells #[.int .i64 a.E, .int .i64 a.At, .slice p5.vo a.V.length p5.vc, .slice p5.lo a.L.length p5.lc] 28))) (ho5.below ((Below.refl _ w5).alloc (Nat.le_refl _) (.cells #[.int .i64 a.E, .int .i64 a.At, .slice p5.vo a.V.length p5.vc, .slice p5.lo a.L.length p5.lc] 28))))
                    have HS := Lib.hid (same_any a p5 p _ H5.out.1 (HP.out.below H5.out.2.low))
                    obtain ⟨b0, b1, b2, b3⟩ := cells4 ((H5.out.2.low.block w.heap.size (by have := HX.out.2; omega)).trans HX.out.1)
                    clear ha5 ho5
                    unfold An.val at HS ⊢
                    go_wp2_with fail
                    refine HS.out.mono ?_
                    rintro e w6 ⟨rfl, hb6⟩
                    have H6 := Lib.hid (H5.out.2.below hb6)
                    clear hb6
                    go_wp2_with fail
                    refine (H6.out.state HB.out.1 HB.out.2.1 (by have := HB.out.2.2; omega)).mono ?_
                    rintro e w7 ⟨rfl, h7⟩
                    have H7 := Lib.hid h7
                    clear h7
                    go_wp2_with fail
                    exact ⟨⟨j + 1, by omega, by go_num, H7⟩, by simp [intOf]; omega⟩)
                · go_wp2_with fail
                  obtain ⟨W, hW⟩ : ∃ W, wr.alloc (.cells #[.int .u8 o.kd, .int .u8 o.cl, .int .u32 o.sq, .int .i64 o.a.E, .int .i64 o.a.At, .slice o.p.vo o.a.V.length o.p.vc, .slice o.p.lo o.a.L.length o.p.lc] 36) = W := ⟨_, rfl⟩
                  rw [hW] at OC HR2 HOA ⊢
                  clear hW
                  obtain ⟨x, hx⟩ : ∃ x, wr.heap.size = x := ⟨_, rfl⟩
                  rw [hx] at OC HBK ⊢
                  clear hx
                  obtain ⟨u1, u2, u3, u4, u5, u6⟩ := id OC
                  go_region_held3 (fun w' => w'.cell? ⟨x, 1, none⟩ = some (.int .u8 o.cl) ∧ w'.cell? ⟨x, 2, none⟩ = some (.int .u32 o.sq) ∧ w'.cell? ⟨x, 3, none⟩ = some (.int .i64 o.a.E) ∧ w'.cell? ⟨x, 4, none⟩ = some (.int .i64 o.a.At) ∧ w'.cell? ⟨x, 5, none⟩ = some (.slice o.p.vo o.a.V.length o.p.vc) ∧ w'.cell? ⟨x, 6, none⟩ = some (.slice o.p.lo o.a.L.length o.p.lc))
                    (first | exact ⟨u1, u2, u3, u4, u5, u6⟩ | exact U2 | exact U1)
                    (first
                      | (go_at_call 9; refine (twin_any o.a o.p _ (HOA.out.below ((Below.refl _ _).drew))).mono ?_; rintro e w1 ⟨p', rfl, ha', _, hb'⟩; have U1 := OC.on (Z := fun _ => False) (below_any ((Below.refl _ W).drew.trans hb')) id; have F1 := Lib.hid (And.intro ha' (HR2.out.below ((Below.refl _ W).drew.trans hb'))); clear ha' hb'; unfold An.val)
                      | (go_at_call 8; refine (F1.out.2.fin o.cl o.sq HO.out.2.1.1 HO.out.2.2.1 HO.out.2.2.2 HQ.out F1.out.1).mono ?_; rintro e w2 ⟨⟨q2, rfl⟩, h2, hd2⟩; have U2 := OpC.on U1 hd2 HBK.out; have F2 := Lib.hid h2; clear h2 hd2))
                  all_goals (
                    go_wp2_with fail
                    refine (F2.out.done HB.out.1 HB.out.2.1 (by have := HB.out.2.2; omega)).mono ?_
                    rintro e w5 ⟨p5, rfl, ha5, ho5⟩
                    have H5 := Lib.hid (And.intro (ha5.below ((Below.refl _ w5).alloc (Nat.le_refl _) (.cells #[.int .i64 a.E, .int .i64 a.At, .slice p5.vo a.V.length p5.vc, .slice p5.lo a.L.length p5.lc] 28))) (ho5.below ((Below.refl _ w5).alloc (Nat.le_refl _) (.cells #[.int .i64 a.E, .int .i64 a.At, .slice p5.vo a.V.length p5.vc, .slice p5.lo a.L.length p5.lc] 28))))
                    have HS := Lib.hid (same_any a p5 p _ H5.out.1 (HP.out.below H5.out.2.low))
                    obtain ⟨b0, b1, b2, b3⟩ := cells4 ((H5.out.2.low.block w.heap.size (by have := HX.out.2; omega)).trans HX.out.1)
                    clear ha5 ho5
                    unfold An.val at HS ⊢
                    go_wp2_with fail
                    refine HS.out.mono ?_
                    rintro e w6 ⟨rfl, hb6⟩
                    have H6 := Lib.hid (H5.out.2.below hb6)
                    clear hb6
                    go_wp2_with fail
                    refine (H6.out.state HB.out.1 HB.out.2.1 (by have := HB.out.2.2; omega)).mono ?_
                    rintro e w7 ⟨rfl, h7⟩
                    have H7 := Lib.hid h7
                    clear h7
                    go_wp2_with fail
                    exact ⟨⟨j + 1, by omega, by go_num, H7⟩, by simp [intOf]; omega⟩)
              · have q1 : (o.cl != (c : Int)) = false := by
                  by_cases e : o.cl = (c : Int)
                  · simpa using e
                  · exact absurd (.inl e) hq
                have q2 : ¬ o.sq ≤ 1 + (k : Int) := fun h => hq (.inr h)
                clear hq
                go_wp2_with fail
                refine (HR2.out.done HB.out.1 HB.out.2.1 (by have := HB.out.2.2; omega)).mono ?_
                rintro e w5 ⟨p5, rfl, ha5, ho5⟩
                have H5 := Lib.hid (And.intro (ha5.below ((Below.refl _ w5).alloc (Nat.le_refl _) (.cells #[.int .i64 a.E, .int .i64 a.At, .slice p5.vo a.V.length p5.vc, .slice p5.lo a.L.length p5.lc] 28))) (ho5.below ((Below.refl _ w5).alloc (Nat.le_refl _) (.cells #[.int .i64 a.E, .int .i64 a.At, .slice p5.vo a.V.length p5.vc, .slice p5.lo a.L.length p5.lc] 28))))
                have HS := Lib.hid (same_any a p5 p _ H5.out.1 (HP.out.below H5.out.2.low))
                obtain ⟨b0, b1, b2, b3⟩ := cells4 ((H5.out.2.low.block w.heap.size (by have := HX.out.2; omega)).trans HX.out.1)
                clear ha5 ho5
                unfold An.val at HS ⊢
                go_wp2_with fail
                refine HS.out.mono ?_
                rintro e w6 ⟨rfl, hb6⟩
                have H6 := Lib.hid (H5.out.2.below hb6)
                clear hb6
                go_wp2_with fail
                refine (H6.out.state HB.out.1 HB.out.2.1 (by have := HB.out.2.2; omega)).mono ?_
                rintro e w7 ⟨rfl, h7⟩
                have H7 := Lib.hid h7
                clear h7
                go_wp2_with fail
                exact ⟨⟨j + 1, by omega, by go_num, H7⟩, by simp [intOf]; omega⟩
          · go_wp2_with fail
            refine (HR2.out.start o.cl o.sq HO.out.2.1.1 HO.out.2.2.1 HO.out.2.2.2).mono ?_
            rintro e w4 ⟨⟨q4, rfl⟩, h4⟩
            have H4 := Lib.hid h4
            clear h4
            go_wp2_with fail
            refine (H4.out.done HB.out.1 HB.out.2.1 (by have := HB.out.2.2; omega)).mono ?_
            rintro e w5 ⟨p5, rfl, ha5, ho5⟩
            have H5 := Lib.hid (And.intro (ha5.below ((Below.refl _ w5).alloc (Nat.le_refl _) (.cells #[.int .i64 a.E, .int .i64 a.At, .slice p5.vo a.V.length p5.vc, .slice p5.lo a.L.length p5.lc] 28))) (ho5.below ((Below.refl _ w5).alloc (Nat.le_refl _) (.cells #[.int .i64 a.E, .int .i64 a.At, .slice p5.vo a.V.length p5.vc, .slice p5.lo a.L.length p5.lc] 28))))
            have HS := Lib.hid (same_any a p5 p _ H5.out.1 (HP.out.below H5.out.2.low))
            obtain ⟨b0, b1, b2, b3⟩ := cells4 ((H5.out.2.low.block w.heap.size (by have := HX.out.2; omega)).trans HX.out.1)
            clear ha5 ho5
            unfold An.val at HS ⊢
            go_wp2_with fail
            refine HS.out.mono ?_
            rintro e w6 ⟨rfl, hb6⟩
            have H6 := Lib.hid (H5.out.2.below hb6)
            clear hb6
            go_wp2_with fail
            refine (H6.out.state HB.out.1 HB.out.2.1 (by have := HB.out.2.2; omega)).mono ?_
            rintro e w7 ⟨rfl, h7⟩
            have H7 := Lib.hid h7
            clear h7
            go_wp2_with fail
            exact ⟨⟨j + 1, by omega, by go_num, H7⟩, by simp [intOf]; omega⟩
        · go_wp2_with fail
          refine (HR2.out.ask o.cl o.sq HO.out.2.1.1 HO.out.2.2.1 HO.out.2.2.2).mono ?_
          rintro e w4 ⟨⟨x4, y4, z4, rfl⟩, h4⟩
          have H4 := Lib.hid h4
          clear h4
          go_wp2_with fail
          refine (H4.out.done HB.out.1 HB.out.2.1 (by have := HB.out.2.2; omega)).mono ?_
          rintro e w5 ⟨p5, rfl, ha5, ho5⟩
          have H5 := Lib.hid (And.intro (ha5.below ((Below.refl _ w5).alloc (Nat.le_refl _) (.cells #[.int .i64 a.E, .int .i64 a.At, .slice p5.vo a.V.length p5.vc, .slice p5.lo a.L.length p5.lc] 28))) (ho5.below ((Below.refl _ w5).alloc (Nat.le_refl _) (.cells #[.int .i64 a.E, .int .i64 a.At, .slice p5.vo a.V.length p5.vc, .slice p5.lo a.L.length p5.lc] 28))))
          have HS := Lib.hid (same_any a p5 p _ H5.out.1 (HP.out.below H5.out.2.low))
          obtain ⟨b0, b1, b2, b3⟩ := cells4 ((H5.out.2.low.block w.heap.size (by have := HX.out.2; omega)).trans HX.out.1)
          clear ha5 ho5
          unfold An.val at HS ⊢
          go_wp2_with fail
          refine HS.out.mono ?_
          rintro e w6 ⟨rfl, hb6⟩
          have H6 := Lib.hid (H5.out.2.below hb6)
          clear hb6
          go_wp2_with fail
          refine (H6.out.state HB.out.1 HB.out.2.1 (by have := HB.out.2.2; omega)).mono ?_
          rintro e w7 ⟨rfl, h7⟩
          have H7 := Lib.hid h7
          clear h7
          go_wp2_with fail
          exact ⟨⟨j + 1, by omega, by go_num, H7⟩, by simp [intOf]; omega⟩
    · obtain rfl : j = l := by omega
      go_wp2_with fail
      go_ret
      exact ⟨rfl, HW.out.trans (HR.out.low.mono HW.out.size)⟩
end Go.Proofs.Yteikhbfdegmffaa.Se
