/- session: the law on clients apart, walked. -/
import Derived.Test.YteikhbfdegmffaaC3
namespace Go.Proofs.Yteikhbfdegmffaa.Se
open Go Go.RowKit
set_option maxRecDepth 100000 in
set_option maxHeartbeats 8000000 in
theorem apart_law (ao : Option Addr) (l cap : Nat) (Os : List OpS) (cl sq : Int) (w : World) (hl : Os.length = l) (hr : RdS w ao Os) (hi : ∀ o ∈ Os, OkS w o) (hlm : l ≤ maxLen) (c0 : 0 ≤ cl) (q0 : 0 ≤ sq) (q1 : sq ≤ 4294967295) :
    Calls Try.prog 4 #[.slice ao l cap, .int .u8 cl, .int .u32 sq] w fun e w' => e = .returned (.bool true) ∧ Below w.heap.size w w' := by
  obtain ⟨c, hc, hc4⟩ : ∃ c : Nat, cl % 4 = (c : Int) ∧ c < 4 := ⟨(cl % 4).toNat, by omega, by omega⟩
  unfold maxLen at hlm
  have HL := Lib.hid (And.intro hl (And.intro hr hi))
  have HA := Lib.hid (awake_any w)
  have HB := Lib.hid (And.intro hc4 (And.intro q0 q1))
  clear hl hr hi q0 q1
  go_enter Try.func4, Try.ntmps4
  go_wp2_with (go_at_call 5; refine HA.out.mono ?_; rintro e w1 ⟨rfl, hb⟩; have A1 := Lib.hid hb; clear hb)
  refine (new_any w1).mono ?_
  rintro e w2 ⟨rfl, h2, hs2⟩
  have H2 := Lib.hid (And.intro h2 hs2)
  clear h2 hs2
  go_wp2_with fail
  refine (new_any w2).mono ?_
  rintro e w3 ⟨rfl, h3, _⟩
  have H3 : Hid (PairS w1 w1.heap.size w2.heap.size c ⟨0, 0, 0, An.zero, Pl.nil⟩ 0 w3) := Lib.hid (pair_made _ H2.out.1 h3 rfl h3.low)
  have H4 : Hid (PairS w w1.heap.size w2.heap.size c ⟨0, 0, 0, An.zero, Pl.nil⟩ 0 w3) := Lib.hid (by
    obtain ⟨K, L, ⟨F, h1⟩, ⟨G, h2⟩, h4, h5, h6, h7⟩ := H3.out
    exact ⟨K, L, ⟨F, h1.tab, h1.ans, A1.out.trans (h1.low.mono A1.out.size), Nat.le_trans A1.out.size h6, h1.pb, h1.pl⟩, ⟨G, h2.tab, h2.ans, A1.out.trans (h2.low.mono A1.out.size), Nat.le_trans A1.out.size h7, h2.pb, h2.pl⟩, h4, h5, Nat.le_trans A1.out.size h6, Nat.le_trans A1.out.size h7⟩)
  have hne : w1.heap.size ≠ w2.heap.size := by have := H2.out.2; omega
  clear h3 H3 H2 A1 HA
  generalize w1.heap.size = b1 at *
  generalize w2.heap.size = b2 at *
  go_wp2_with fail
  simp only [hc]
  clear hc c0
  go_loopw [33] (fun u wr => ∃ j : Nat, j ≤ l ∧ u = .int .i64 j ∧ ∃ o0, Hid (PairS w b1 b2 c o0 0 wr)) (fun u _ => l - (intOf u).toNat)
  case atStart => exact ⟨0, by omega, rfl, _, H4⟩
  case round =>
    obtain ⟨j, hj, rfl, o0, HR⟩ := hrel
    clear H4
    by_cases hlt : j < l
    · have j1 : (j : Int) < (l : Int) := by omega
      obtain ⟨o, ho⟩ : ∃ o, Os[j]? = some o := ⟨_, List.getElem?_eq_getElem (by have := HL.out.1; omega)⟩
      obtain ⟨g, og, rfl, d0, d1, d2, d3, d4, d5, d6⟩ := HL.out.2.1.at_ HR.out.low ho
      have HO := Lib.hid (HL.out.2.2 o (List.mem_of_getElem? ho))
      have HM := Lib.hid (InS.made (HR.out.start o))
      have HR1 := Lib.hid (HR.out.below ((Below.refl _ wr).alloc (Nat.le_refl _) (.cells #[.int .u8 o.kd, .int .u8 o.cl, .int .u32 o.sq, .int .i64 o.a.E, .int .i64 o.a.At, .slice o.p.vo o.a.V.length o.p.vc, .slice o.p.lo o.a.L.length o.p.lc] 36)))
      clear ho
      by_cases h60 : (60 : Int) ≤ (j : Int)
      · go_wp2_with fail
        obtain ⟨P, k, hk1, hk2⟩ := HR1.out.two
        have K1 := Lib.hid (show Knows w b1 c P k _ from hk1)
        have K2 := Lib.hid (show Knows w b2 c P k _ from hk2)
        clear hk1 hk2
        obtain ⟨r, hr⟩ : ∃ r, askF k sq = r := ⟨_, rfl⟩
        have C1 := K1.out.ask HB.out.1 sq HB.out.2.1 HB.out.2.2
        rw [hr] at C1
        obtain ⟨x1, a1, z1⟩ := r
        refine C1.mono ?_
        rintro e w4 ⟨p4, rfl, ha4, hb4⟩
        have hb4' := hb4.alloc hb4.size (.cells #[.int .i64 a1.E, .int .i64 a1.At, .slice p4.vo a1.V.length p4.vc, .slice p4.lo a1.L.length p4.lc] 28)
        have S4 := Lib.hid (And.intro (K1.out.below hb4') (And.intro (K2.out.below hb4') (HoldsA.made ha4)))
        have C2 := S4.out.2.1.ask HB.out.1 sq HB.out.2.1 HB.out.2.2
        rw [hr] at C2
        have HC2 := Lib.hid C2
        clear C1 C2 ha4 hb4 hb4' hr
        unfold An.val
        go_wp2_with fail
        refine HC2.out.mono ?_
        rintro e w6 ⟨p6, rfl, ha6, hb6⟩
        have hb6' := hb6.alloc hb6.size (.cells #[.int .i64 a1.E, .int .i64 a1.At, .slice p6.vo a1.V.length p6.vc, .slice p6.lo a1.L.length p6.lc] 28)
        have S6 := Lib.hid (And.intro (S4.out.1.below hb6') (And.intro (S4.out.2.1.below hb6') (And.intro (S4.out.2.2.below hb6') (HoldsA.made ha6))))
        clear ha6 hb6 hb6'
        unfold An.val
        go_wp2_with fail
        refine (S6.out.1.last HB.out.1).mono ?_
        rintro e w7 ⟨p7, rfl, ha7, hb7⟩
        have hb7' := hb7.alloc hb7.size (.cells #[.int .i64 k.a.E, .int .i64 k.a.At, .slice p7.vo k.a.V.length p7.vc, .slice p7.lo k.a.L.length p7.lc] 28)
        have S7 := Lib.hid (And.intro (S6.out.2.1.below hb7') (And.intro (S6.out.2.2.1.below hb7') (S6.out.2.2.2.below hb7')))
        clear ha7 hb7 hb7'
        unfold An.val
        go_wp2_with fail
        refine (S7.out.1.last HB.out.1).mono ?_
        rintro e w8 ⟨p8, rfl, ha8, hb8⟩
        have hb8' := hb8.alloc hb8.size (.cells #[.int .i64 k.a.E, .int .i64 k.a.At, .slice p8.vo k.a.V.length p8.vc, .slice p8.lo k.a.L.length p8.lc] 28)
        have S8 := Lib.hid (And.intro (S7.out.1.below hb8') (And.intro (S7.out.2.1.below hb8') (S7.out.2.2.below hb8')))
        clear ha8 hb8 hb8'
        obtain ⟨b0, b1', b2', b3⟩ := cells4 S8.out.2.1.1
        obtain ⟨f0, f1', f2', f3⟩ := cells4 S8.out.2.2.1
        have HS := Lib.hid (same_any a1 p4 p6 _ S8.out.2.1.2 S8.out.2.2.2)
        unfold An.val at HS ⊢
        go_wp2_with fail
        refine HS.out.mono ?_
        rintro e w9 ⟨rfl, hb9⟩
        have S9 := Lib.hid (S8.out.1.below hb9).low
        clear hb9
        go_wp2_with fail
        go_ret
        exact ⟨rfl, S9.out⟩
      · go_wp2_with fail
        clear d0 d1 d2 d3 d4 d5 d6 HR HR1
        obtain ⟨x, hx⟩ : ∃ x, wr.heap.size = x := ⟨_, rfl⟩
        obtain ⟨W, hW⟩ : ∃ W, (wr.alloc (.cells #[.int .u8 o.kd, .int .u8 o.cl, .int .u32 o.sq, .int .i64 o.a.E, .int .i64 o.a.At, .slice o.p.vo o.a.V.length o.p.vc, .slice o.p.lo o.a.L.length o.p.lc] 36)).alloc (.cells #[.pointer (some ⟨b1, 0, none⟩), .pointer (some ⟨b2, 0, none⟩)] 30) = W := ⟨_, rfl⟩
        rw [hx, hW] at HM
        rw [hW, hx]
        clear hW hx
        obtain ⟨s, hs⟩ : ∃ s, x + 1 = s := ⟨_, rfl⟩
        rw [hs] at HM ⊢
        clear hs
        go_loopw [44] (fun u wr => ∃ y : Nat, y ≤ 2 ∧ u = .int .i64 y ∧ Hid (InS w b1 b2 c o x s y wr)) (fun u _ => 2 - (intOf u).toNat)
        case atStart => exact ⟨0, by omega, rfl, HM⟩
        case round =>
          obtain ⟨y, hy, rfl, HI⟩ := hrel
          clear HM
          by_cases hy2 : y < 2
          · have y1 : (y : Int) < 2 := by omega
            obtain ⟨u1, u2, u3, u4, u5, u6⟩ := HI.out.op
            have u0 := HI.out.k0
            have HOA := Lib.hid HO.out.1
            by_cases e0 : y = 0
            · have lt : wr.cell? ⟨s, y, none⟩ = some (.pointer (some ⟨b1, 0, none⟩)) := by rw [e0]; exact HI.out.l0
              have HT := Lib.hid (show turnB b1 b2 y = b1 from if_pos e0)
              have hpe := HI.out.pair.neq
              clear e0
              cases k1 : (o.kd == 1)
              · cases k2 : (o.kd == 2)
                · cases k3 : (o.kd == 3)
                  · have HN := Lib.hid (HI.out.step (HI.out.pair.idle hy2 (by simpa using k1) (by simpa using k2) (by simpa using k3)) (.refl _ _))
                    go_wp2_with fail
                    exact ⟨⟨y + 1, by omega, by go_num, HN⟩, by simp [intOf]; omega⟩
                  · have C := HI.out.pair.fails hy2 (by simpa using k3) HO.out.2.1.1 HO.out.2.2.1
                    rw [HT.out] at C
                    go_wp2_with fail
                    refine C.mono ?_
                    rintro e w4 ⟨⟨q4, rfl⟩, h4, hd4⟩
                    have HN := Lib.hid (HI.out.step h4 (by rw [HT.out]; exact hd4))
                    clear h4 hd4 C
                    go_wp2_with fail
                    exact ⟨⟨y + 1, by omega, by go_num, HN⟩, by simp [intOf]; omega⟩
                · have C := fun p w' (h' : InS w b1 b2 c o x s y w') (ha : AnAt w' o.a p) => h'.pair.fins hy2 (by simpa using k2) HO.out.2.1.1 HO.out.2.2.1 HO.out.2.2.2 ha
                  rw [HT.out] at C
                  have HC := Lib.hid C
                  have OC := HI.out.op
                  have NX := Lib.hid (show x ≠ b1 from fun e => HI.out.nx y (by rw [HT.out]; exact e))
                  clear C
                  go_wp2_with fail
                  go_region_held3 (fun w' => w'.cell? ⟨x, 1, none⟩ = some (.int .u8 o.cl) ∧ w'.cell? ⟨x, 2, none⟩ = some (.int .u32 o.sq) ∧ w'.cell? ⟨x, 3, none⟩ = some (.int .i64 o.a.E) ∧ w'.cell? ⟨x, 4, none⟩ = some (.int .i64 o.a.At) ∧ w'.cell? ⟨x, 5, none⟩ = some (.slice o.p.vo o.a.V.length o.p.vc) ∧ w'.cell? ⟨x, 6, none⟩ = some (.slice o.p.lo o.a.L.length o.p.lc))
                    (first | exact ⟨u1, u2, u3, u4, u5, u6⟩ | exact U2 | exact U1)
                    (first
                      | (go_at_call 9; refine (twin_any o.a o.p _ (HOA.out.below (HI.out.pair.low.drew))).mono ?_; rintro e w1 ⟨p', rfl, ha', _, hb'⟩; have U1 := OC.on (Z := fun _ => False) (below_any ((Below.refl _ wr).drew.trans hb')) id; have F1 := Lib.hid (And.intro ha' (HI.out.below ((Below.refl _ wr).drew.trans hb'))); clear ha' hb'; unfold An.val)
                      | (go_at_call 8; refine (HC.out _ _ F1.out.2 F1.out.1).mono ?_; rintro e w2 ⟨⟨q2, rfl⟩, h2, hd2⟩; have U2 := OpC.on U1 hd2 NX.out; have F2 := Lib.hid (F1.out.2.step h2 (by rw [HT.out]; exact hd2)); clear h2 hd2))
                  all_goals (
                    go_wp2_with fail
                    exact ⟨⟨y + 1, by omega, by go_num, F2⟩, by simp [intOf]; omega⟩)
              · have C := HI.out.pair.starts hy2 (by simpa using k1) HO.out.2.1.1 HO.out.2.2.1 HO.out.2.2.2
                rw [HT.out] at C
                go_wp2_with fail
                refine C.mono ?_
                rintro e w4 ⟨⟨q4, rfl⟩, h4, hd4⟩
                have HN := Lib.hid (HI.out.step h4 (by rw [HT.out]; exact hd4))
                clear h4 hd4 C
                go_wp2_with fail
                exact ⟨⟨y + 1, by omega, by go_num, HN⟩, by simp [intOf]; omega⟩
            · have e1 : y = 1 := by omega
              have lt : wr.cell? ⟨s, y, none⟩ = some (.pointer (some ⟨b2, 0, none⟩)) := by rw [e1]; exact HI.out.l1
              have HT := Lib.hid (show turnB b1 b2 y = b2 from if_neg e0)
              have HY := Lib.hid e1
              have hpe := ptr_same b2 wr
              clear e0 e1
              cases q1 : (o.cl != (c : Int))
              · cases k1 : (o.kd == 1)
                · cases k2 : (o.kd == 2)
                  · cases k3 : (o.kd == 3)
                    · have HN := Lib.hid (HI.out.step (HI.out.pair.idle hy2 (by simpa using k1) (by simpa using k2) (by simpa using k3)) (.refl _ _))
                      go_wp2_with fail
                      exact ⟨⟨y + 1, by omega, by go_num, HN⟩, by simp [intOf]; omega⟩
                    · have C := HI.out.pair.fails hy2 (by simpa using k3) HO.out.2.1.1 HO.out.2.2.1
                      rw [HT.out] at C
                      go_wp2_with fail
                      refine C.mono ?_
                      rintro e w4 ⟨⟨q4, rfl⟩, h4, hd4⟩
                      have HN := Lib.hid (HI.out.step h4 (by rw [HT.out]; exact hd4))
                      clear h4 hd4 C
                      go_wp2_with fail
                      exact ⟨⟨y + 1, by omega, by go_num, HN⟩, by simp [intOf]; omega⟩
                  · have C := fun p w' (h' : InS w b1 b2 c o x s y w') (ha : AnAt w' o.a p) => h'.pair.fins hy2 (by simpa using k2) HO.out.2.1.1 HO.out.2.2.1 HO.out.2.2.2 ha
                    rw [HT.out] at C
                    have HC := Lib.hid C
                    have OC := HI.out.op
                    have NX := Lib.hid (show x ≠ b2 from fun e => HI.out.nx y (by rw [HT.out]; exact e))
                    clear C
                    go_wp2_with fail
                    go_region_held3 (fun w' => w'.cell? ⟨x, 1, none⟩ = some (.int .u8 o.cl) ∧ w'.cell? ⟨x, 2, none⟩ = some (.int .u32 o.sq) ∧ w'.cell? ⟨x, 3, none⟩ = some (.int .i64 o.a.E) ∧ w'.cell? ⟨x, 4, none⟩ = some (.int .i64 o.a.At) ∧ w'.cell? ⟨x, 5, none⟩ = some (.slice o.p.vo o.a.V.length o.p.vc) ∧ w'.cell? ⟨x, 6, none⟩ = some (.slice o.p.lo o.a.L.length o.p.lc))
                      (first | exact ⟨u1, u2, u3, u4, u5, u6⟩ | exact U2 | exact U1)
                      (first
                        | (go_at_call 9; refine (twin_any o.a o.p _ (HOA.out.below (HI.out.pair.low.drew))).mono ?_; rintro e w1 ⟨p', rfl, ha', _, hb'⟩; have U1 := OC.on (Z := fun _ => False) (below_any ((Below.refl _ wr).drew.trans hb')) id; have F1 := Lib.hid (And.intro ha' (HI.out.below ((Below.refl _ wr).drew.trans hb'))); clear ha' hb'; unfold An.val)
                        | (go_at_call 8; refine (HC.out _ _ F1.out.2 F1.out.1).mono ?_; rintro e w2 ⟨⟨q2, rfl⟩, h2, hd2⟩; have U2 := OpC.on U1 hd2 NX.out; have F2 := Lib.hid (F1.out.2.step h2 (by rw [HT.out]; exact hd2)); clear h2 hd2))
                    all_goals (
                      go_wp2_with fail
                      exact ⟨⟨y + 1, by omega, by go_num, F2⟩, by simp [intOf]; omega⟩)
                · have C := HI.out.pair.starts hy2 (by simpa using k1) HO.out.2.1.1 HO.out.2.2.1 HO.out.2.2.2
                  rw [HT.out] at C
                  go_wp2_with fail
                  refine C.mono ?_
                  rintro e w4 ⟨⟨q4, rfl⟩, h4, hd4⟩
                  have HN := Lib.hid (HI.out.step h4 (by rw [HT.out]; exact hd4))
                  clear h4 hd4 C
                  go_wp2_with fail
                  exact ⟨⟨y + 1, by omega, by go_num, HN⟩, by simp [intOf]; omega⟩
              · have HN := Lib.hid (InS.skip (by have h := HI.out; rw [HY.out] at h; exact h) HO.out.2.1.1 (by simpa using q1))
                have HN2 : Hid (InS w b1 b2 c o x s (y + 1) wr) := Lib.hid (by rw [HY.out]; exact HN.out)
                go_wp2_with fail
                exact ⟨⟨y + 1, by omega, by go_num, HN2⟩, by simp [intOf]; omega⟩
          · obtain rfl : y = 2 := by omega
            go_wp2_with fail
            go_roundw
            case rel => exact ⟨j + 1, by omega, by go_num, o, Lib.hid HI.out.pair.end_⟩
            case measure => simp [intOf]; omega
    · obtain rfl : j = l := by omega
      go_wp2_with fail
      obtain ⟨P, k, hk1, hk2⟩ := HR.out.two
      have K1 := Lib.hid (show Knows w b1 c P k _ from hk1)
      have K2 := Lib.hid (show Knows w b2 c P k _ from hk2)
      clear hk1 hk2
      obtain ⟨r, hr⟩ : ∃ r, askF k sq = r := ⟨_, rfl⟩
      have C1 := K1.out.ask HB.out.1 sq HB.out.2.1 HB.out.2.2
      rw [hr] at C1
      obtain ⟨x1, a1, z1⟩ := r
      refine C1.mono ?_
      rintro e w4 ⟨p4, rfl, ha4, hb4⟩
      have hb4' := hb4.alloc hb4.size (.cells #[.int .i64 a1.E, .int .i64 a1.At, .slice p4.vo a1.V.length p4.vc, .slice p4.lo a1.L.length p4.lc] 28)
      have S4 := Lib.hid (And.intro (K1.out.below hb4') (And.intro (K2.out.below hb4') (HoldsA.made ha4)))
      have C2 := S4.out.2.1.ask HB.out.1 sq HB.out.2.1 HB.out.2.2
      rw [hr] at C2
      have HC2 := Lib.hid C2
      clear C1 C2 ha4 hb4 hb4' hr
      unfold An.val
      go_wp2_with fail
      refine HC2.out.mono ?_
      rintro e w6 ⟨p6, rfl, ha6, hb6⟩
      have hb6' := hb6.alloc hb6.size (.cells #[.int .i64 a1.E, .int .i64 a1.At, .slice p6.vo a1.V.length p6.vc, .slice p6.lo a1.L.length p6.lc] 28)
      have S6 := Lib.hid (And.intro (S4.out.1.below hb6') (And.intro (S4.out.2.1.below hb6') (And.intro (S4.out.2.2.below hb6') (HoldsA.made ha6))))
      clear ha6 hb6 hb6'
      unfold An.val
      go_wp2_with fail
      refine (S6.out.1.last HB.out.1).mono ?_
      rintro e w7 ⟨p7, rfl, ha7, hb7⟩
      have hb7' := hb7.alloc hb7.size (.cells #[.int .i64 k.a.E, .int .i64 k.a.At, .slice p7.vo k.a.V.length p7.vc, .slice p7.lo k.a.L.length p7.lc] 28)
      have S7 := Lib.hid (And.intro (S6.out.2.1.below hb7') (And.intro (S6.out.2.2.1.below hb7') (S6.out.2.2.2.below hb7')))
      clear ha7 hb7 hb7'
      unfold An.val
      go_wp2_with fail
      refine (S7.out.1.last HB.out.1).mono ?_
      rintro e w8 ⟨p8, rfl, ha8, hb8⟩
      have hb8' := hb8.alloc hb8.size (.cells #[.int .i64 k.a.E, .int .i64 k.a.At, .slice p8.vo k.a.V.length p8.vc, .slice p8.lo k.a.L.length p8.lc] 28)
      have S8 := Lib.hid (And.intro (S7.out.1.below hb8') (And.intro (S7.out.2.1.below hb8') (S7.out.2.2.below hb8')))
      clear ha8 hb8 hb8'
      obtain ⟨b0, b1', b2', b3⟩ := cells4 S8.out.2.1.1
      obtain ⟨f0, f1', f2', f3⟩ := cells4 S8.out.2.2.1
      have HS := Lib.hid (same_any a1 p4 p6 _ S8.out.2.1.2 S8.out.2.2.2)
      unfold An.val at HS ⊢
      go_wp2_with fail
      refine HS.out.mono ?_
      rintro e w9 ⟨rfl, hb9⟩
      have S9 := Lib.hid (S8.out.1.below hb9).low
      clear hb9
      go_wp2_with fail
      go_ret
      exact ⟨rfl, S9.out⟩
end Go.Proofs.Yteikhbfdegmffaa.Se
