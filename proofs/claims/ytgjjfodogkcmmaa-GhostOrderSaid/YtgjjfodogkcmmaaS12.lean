/- The sort of numbers: the whole, walked. -/
import Derived.Test.YtgjjfodogkcmmaaS6
import Derived.Test.YtgjjfodogkcmmaaS8
import Derived.Test.YtgjjfodogkcmmaaS10
import Derived.Test.YtgjjfodogkcmmaaS11
import Derived.Deep.CutRange
namespace Go.Proofs.Ytgjjfodogkcmmaa.So
open Go Go.RowKit
/-- What is known between two rounds. -/
def Mid (w : World) (B g cap n a b c d : Nat) (f f' : Fn) (wr : World) : Prop := Sw a b f f' ∧ Rest a b c d f' ∧ Low c d f' ∧ Has w B g cap n f' wr
theorem Mid.sw {w wr w' : World} {B g cap n a b c d : Nat} {f f1 f2 : Fn} (h : Mid w B g cap n a b c d f f1 wr) (hs : Sw c d f1 f2) (hh : Has wr B g cap n f2 w') : Mid w B g cap n a b c d f f2 w' :=
  ⟨h.1.trans (hs.mono h.2.1.1 h.2.1.2.1), h.2.1.sw hs, h.2.2.1.sw hs, h.2.2.2.trans hh⟩
theorem Mid.done {w wr w' : World} {B g cap n a b c d : Nat} {f f1 : Fn} (h : Mid w B g cap n a b c d f f1 wr) (hd : Done wr B g cap n c d f1 w') : Done w B g cap n a b f w' := by
  obtain ⟨f2, h1, h2, h3⟩ := hd
  exact ⟨f2, h.1.trans (h1.mono h.2.1.1 h.2.1.2.1), h.2.1.2.2 f2 h1 h2, h.2.2.2.trans h3⟩
theorem Mid.drewN {w wr : World} {B g cap n a b c d : Nat} {f f1 : Fn} (h : Mid w B g cap n a b c d f f1 wr) (q : Nat) : Mid w B g cap n a b c d f f1 (wr.drewN q) := ⟨h.1, h.2.1, h.2.2.1, h.2.2.2.drewN q⟩
def CutA (w : World) (B g cap n a b c d l : Nat) (f : Fn) (s3 : Value) (wx : World) : Prop := ∃ (l' : Nat) (f' : Fn), s3 = .int .i64 l' ∧ l' ≤ l ∧ Mid w B g cap n a b c d f f' wx
def CutB (w : World) (B g cap n a b c d : Nat) (f : Fn) (s11 s12 : Value) (wx : World) : Prop := ∃ (p : Nat) (t : Int) (f' : Fn), s11 = .int .i64 p ∧ s12 = .int .i64 t ∧ c ≤ p ∧ p < d ∧ Mid w B g cap n a b c d f f' wx
def CutC (w0 : World) (s68 : Value) (wx : World) : Prop := (∃ x : Bool, s68 = .bool x) ∧ w0 = wx
def CutD (w : World) (B g cap n a b c d : Nat) (f : Fn) (wx : World) : Prop := ∃ f' : Fn, Mid w B g cap n a b c d f f' wx
set_option maxRecDepth 100000 in
set_option maxHeartbeats 8000000 in
theorem pdq_any (B g cap n : Nat) (hn : n ≤ 1152921504606846975) : ∀ (M a b l : Nat) (f : Fn) (w : World), b - a = M → a ≤ b → b ≤ n → l ≤ 100 → Low a b f → Own w B g cap n f →
    Calls Try.prog 49 #[.slice (some ⟨g, 0, none⟩) n cap, .int .i64 a, .int .i64 b, .int .i64 l] w fun e w' => e = .returned (.tuple #[]) ∧ Done w B g cap n a b f w' := by
  intro M
  induction M using Nat.strongRecOn with
  | _ M ih =>
  intro a b l f w hM hab hb hl hlow h
  have IH := Lib.hid ih
  have HM := Lib.hid (show b - a ≤ M by omega)
  have H := Lib.hid (show Mid w B g cap n a b a b f f w from ⟨.refl f, rest_start a b f, hlow, .refl h⟩)
  clear ih h hlow hM
  go_enter Try.func49, Try.ntmps49
  go_wp2
  go_loopg [1, 2, 3, 8, 9] n (fun kx u1 u2 u3 u8 u9 wr => ∃ (c d l : Nat) (t1 t2 : Bool) (f' : Fn), u1 = .int .i64 c ∧ u2 = .int .i64 d ∧ u3 = .int .i64 l ∧ u8 = .bool t1 ∧ u9 = .bool t2 ∧ a ≤ c ∧ c ≤ d ∧ d ≤ b ∧ d - c ≤ kx ∧ l ≤ 100 ∧ Hid (Mid w B g cap n a b c d f f' wr))
  case atStart => exact ⟨a, b, l, true, true, f, rfl, rfl, rfl, rfl, rfl, Nat.le_refl _, hab, Nat.le_refl _, by omega, hl, H⟩
  case round =>
    obtain ⟨c, d, l, t1, t2, f1, rfl, rfl, rfl, rfl, rfl, hac, hcd, hdb, hk, hl, HK⟩ := hrel
    clear H
    obtain ⟨L, hL⟩ : ∃ L, L = d - c := ⟨_, rfl⟩
    have kL : (d : Int) - (c : Int) = (L : Int) := by omega
    have kL2 : (L : Int) ≤ 1152921504606846975 := by omega
    by_cases h12 : L ≤ 12
    · have k12 : (L : Int) ≤ 12 := by omega
      have HL := Lib.hid hL
      clear hL
      go_wp2_with (fail)
      refine (ins_any B g cap n c d f1 wr HK.out.2.2.2.1 (by omega) (by omega) (by omega)).mono ?_
      rintro e w1 ⟨rfl, hd⟩
      have HE := Lib.hid (HK.out.done hd)
      clear hd HK
      go_wp2_with (fail)
      exact bodyPost_ret (v := .tuple #[]) (results_none rfl _ _ _) rfl ⟨rfl, HE.out⟩
    · have k12 : ¬ ((L : Int) ≤ 12) := by omega
      by_cases h0 : l = 0
      · subst h0
        go_wp2_with (fail)
        refine (heap_any B g cap n c d f1 wr HK.out.2.2.2.1 hn (by omega) (by omega)).mono ?_
        rintro e w1 ⟨rfl, hd⟩
        have HE := Lib.hid (HK.out.done hd)
        clear hd HK
        go_wp2_with (fail)
        exact bodyPost_ret (v := .tuple #[]) (results_none rfl _ _ _) rfl ⟨rfl, HE.out⟩
      · have kl0 : ((l : Int) == 0) = false := by rw [beq_eq_false_iff_ne]; omega
        have kl1 : (1 : Int) ≤ (l : Int) := by omega
        have HL := Lib.hid (And.intro hL (And.intro h12 h0))
        clear hL h12 h0
        go_upto_if 35 with (fail)
        go_cut [3] from 19 to 133 (fun s3 wx => CutA w B g cap n a b c d l f s3 wx)
        case first =>
          cases t1
          · go_wp2_with (fail)
            refine (break_any B g cap n c d f1 wr HK.out.2.2.2.1 hn (by have := HL.out; omega) (by omega)).mono ?_
            rintro e w1 ⟨rfl, f2, h1, h2⟩
            have HE := Lib.hid (HK.out.sw h1 h2)
            clear h1 h2 HK
            go_wp2_with (fail)
            go_meet
            exact ⟨l - 1, f2, by congr 1; omega, by omega, HE.out⟩
          · go_wp2_with (fail)
            go_meet
            exact ⟨l, f1, rfl, Nat.le_refl _, HK.out⟩
        case rest =>
          obtain ⟨l2, f2, rfl, hl2, hm⟩ := hcut
          have HK := Lib.hid hm
          clear hm
          refine (‹∀ (a : Act) (w : World), Code.wp _ _ _ a w → _› _ _ ?_)
          go_wp2_with (fail)
          refine (choose_any B g cap n c d f2 wc HK.out.2.2.2.1 hn (by have := HL.out; omega) (by omega)).mono ?_
          rintro e w2 ⟨p, t, rfl, hp1, hp2, hh2⟩
          have HK2 := Lib.hid (HK.out.sw (.refl _) hh2)
          clear HK hh2
          have HP := Lib.hid (And.intro hp1 hp2)
          clear hp1 hp2
          go_upto_if 50 with (fail)
          go_cut [11, 12] from 19 to 133 (fun s11 s12 wx => CutB w B g cap n a b c d f s11 s12 wx)
          case first =>
            cases hb : (t == 2)
            · try simp only [hb]
              go_wp2_with (fail)
              go_meet
              exact ⟨p, t, f2, rfl, rfl, HP.out.1, HP.out.2, HK2.out⟩
            · try simp only [hb]
              go_wp2_with (fail)
              refine (rev_any B g cap n c d f2 w2 HK2.out.2.2.2.1 hn (by have := HP.out; omega) (by omega)).mono ?_
              rintro e w3 ⟨rfl, f3, h1, h2⟩
              have HE := Lib.hid (HK2.out.sw h1 h2)
              clear h1 h2
              have kd : (1 : Int) ≤ (d : Int) := by have := HP.out; omega
              have kp : (c : Int) ≤ (p : Int) := by have := HP.out; omega
              have kp2 : (p : Int) < (d : Int) := by have := HP.out; omega
              have kp3 : (d : Int) ≤ 1152921504606846975 := by omega
              go_wp2_with (fail)
              go_meet
              exact ⟨d - 1 - (p - c), 1, f3, by congr 1; omega, rfl, by omega, by omega, HE.out⟩
          case rest =>
            obtain ⟨p, t, f3, rfl, rfl, hp1, hp2, hm⟩ := hcut
            have HK := Lib.hid hm
            clear hm HK2 HP
            refine (‹∀ (a : Act) (w : World), Code.wp _ _ _ a w → _› _ _ ?_)
            go_upto_region 15 with (fail)
            go_cut [68] from 19 to 133 (fun s68 wx => CutC wc s68 wx)
            case first =>
              cases t1 <;> cases t2 <;> (go_wp2_with (fail)) <;> go_meet <;> exact ⟨⟨_, rfl⟩, rfl⟩
            case rest =>
              obtain ⟨⟨x, rfl⟩, rfl⟩ := hcut
              refine (‹∀ (a : Act) (w : World), Code.wp _ _ _ a w → _› _ _ ?_)
              go_cut [] from 19 to 133 (fun wx => CutD w B g cap n a b c d f wx)
              case first =>
                cases x
                · go_wp2_with (fail)
                  go_meet
                  exact ⟨f3, HK.out⟩
                · go_wp2_with (fail)
                  refine (partial_any B g cap n c d f3 _ HK.out.2.2.2.1 hn (by omega) (by omega) HK.out.2.2.1).mono ?_
                  rintro e w3 ⟨t, rfl, f4, h1, h2, h3⟩
                  cases t
                  · have HE := Lib.hid (HK.out.sw h1 h3)
                    clear h1 h2 h3
                    go_wp2_with (fail)
                    go_meet
                    exact ⟨f4, HE.out⟩
                  · have HE := Lib.hid (HK.out.done (show Done _ B g cap n c d f3 w3 from ⟨f4, h1, h2 rfl, h3⟩))
                    clear h1 h2 h3
                    go_wp2_with (fail)
                    exact bodyPost_ret (v := .tuple #[]) (results_none rfl _ _ _) rfl ⟨rfl, HE.out⟩
              case rest =>
                obtain ⟨f4, hm⟩ := hcut
                have HK2 := Lib.hid hm
                clear hm HK
                have HK := HK2
                clear HK2
                refine (‹∀ (a : Act) (w : World), Code.wp _ _ _ a w → _› _ _ ?_)
                go_upto_region 17 with (fail)
                have HL2 := HL.out
                obtain ⟨x, hx⟩ : ∃ x, x = f4 p := ⟨_, rfl⟩
                have cp := HK.out.2.2.2.1.cell (i := p) (by omega)
                rw [← hx] at cp
                have HX := Lib.hid hx
                clear hx HL2
                have kp : (p : Int) < (n : Int) := by omega
                by_cases hc0 : 0 < c
                · obtain ⟨c1, hc1⟩ : ∃ c1, c = c1 + 1 := ⟨c - 1, by omega⟩
                  obtain ⟨y, hy⟩ : ∃ y, y = f4 c1 := ⟨_, rfl⟩
                  have cq := HK.out.2.2.2.1.cell (i := c1) (by omega)
                  rw [← hy] at cq
                  have HY := Lib.hid (And.intro hy (And.intro hc0 hc1))
                  have kc0 : (0 : Int) < (c : Int) := by omega
                  have kc1 : (c1 : Int) < (n : Int) := by omega
                  have kc2 : (c : Int) - 1 = (c1 : Int) := by omega
                  have kc3 : IntKind.i64.wrap (c1 : Int) = (c1 : Int) := wr64 (by omega) (by omega)
                  have kc4 : decide ((0 : Int) < (c : Int)) = true := decide_eq_true kc0
                  have kc5 : decide (0 < c) = true := decide_eq_true hc0
                  clear hy hc1
                  by_cases hl : y < x
                  · have hd : decide (y < x) = true := decide_eq_true hl
                    clear hl
                    go_quiet (first | (go_at_call 66; refine Calls.quiet_of_same (less_any _ _ _)))
                    clear cp cq
                    have HK2 := Lib.hid (HK.out.drewN nq)
                    clear HK
                    have HK := HK2
                    clear HK2
                    generalize wc.drewN nq = we at *
                    go_wp2_with (fail)
                    refine (part_any B g cap n c d p f4 we HK.out.2.2.2.1 hn (by omega) (by omega) (by omega)).mono ?_
                    rintro e w4 ⟨m, tt, rfl, hc1, hc2, f6, hsw, hcut, hhas⟩
                    have HCM := Lib.hid (And.intro hc1 (And.intro hc2 (And.intro hcut (And.intro hsw hhas))))
                    clear hcut hsw hhas hc1 hc2
                    obtain ⟨ll, hll⟩ : ∃ ll, ll = m - c := ⟨_, rfl⟩
                    obtain ⟨rl, hrl⟩ : ∃ rl, rl = d - m := ⟨_, rfl⟩
                    have kll : (m : Int) - (c : Int) = (ll : Int) := by have := HCM.out.1; omega
                    have krl : (d : Int) - (m : Int) = (rl : Int) := by have := HCM.out.2.1; omega
                    have kth : (L : Int).tdiv 8 = (L : Int) / 8 := Int.tdiv_eq_ediv_of_nonneg (by omega)
                    by_cases hlr : ll < rl
                    · have klr : (ll : Int) < (rl : Int) := by omega
                      have HLR := Lib.hid (And.intro hlr (And.intro hll hrl))
                      clear hlr hll hrl
                      go_wp2_with (fail)
                      refine (IH.out (m - c) (by have := HCM.out.1; have := HCM.out.2.1; have := HM.out; omega) c m l2 _ _ rfl HCM.out.1 (by have := HCM.out.2.1; omega) (by omega) (low_left (HK.out.2.2.1.sw HCM.out.2.2.2.1) (Nat.le_of_lt HCM.out.2.1)) HCM.out.2.2.2.2.1).mono ?_
                      rintro e w5 ⟨rfl, f5, h1, h2, h3⟩
                      have HN := Lib.hid (show Mid w B g cap n a b (m + 1) d f f5 w5 from ⟨(HK.out.1.trans (HCM.out.2.2.2.1.mono HK.out.2.1.1 HK.out.2.1.2.1)).trans (h1.mono HK.out.2.1.1 (by have := HCM.out.2.1; omega)), rest_left (HK.out.2.1.sw HCM.out.2.2.2.1) HCM.out.1 HCM.out.2.1 HCM.out.2.2.1 h1 h2, low_right HCM.out.2.2.1 h1, (HK.out.2.2.2.trans HCM.out.2.2.2.2).trans h3⟩)
                      clear h1 h2 h3
                      go_wp2_with (fail)
                      go_roundg (d - (m + 1))
                      case measure => have := HCM.out.1; have := HCM.out.2.1; omega
                      case rel => exact ⟨m + 1, d, l2, _, tt, f5, by go_num, rfl, rfl, rfl, rfl, by have := HCM.out.1; omega, by have := HCM.out.2.1; omega, hdb, Nat.le_refl _, by omega, HN⟩
                    · have klr : ¬ ((ll : Int) < (rl : Int)) := by omega
                      have HLR := Lib.hid (And.intro hlr (And.intro hll hrl))
                      clear hlr hll hrl
                      obtain ⟨m1, hm1⟩ : ∃ m1, m1 = m + 1 := ⟨_, rfl⟩
                      have km1 : (m : Int) + 1 = (m1 : Int) := by omega
                      have km2 : (m1 : Int) ≤ 1152921504606846976 := by have := HCM.out.2.1; omega
                      have HIM := Lib.hid (IH.out (d - m1) (by have := HCM.out.1; have := HCM.out.2.1; have := HM.out; omega) m1 d l2 _ _ rfl (by have := HCM.out.2.1; omega) (by omega) (by omega) (by rw [hm1]; exact low_right HCM.out.2.2.1 (.refl _)) HCM.out.2.2.2.2.1)
                      have HM1 := Lib.hid hm1
                      clear hm1
                      go_wp2_with (fail)
                      refine HIM.out.mono ?_
                      rintro e w5 ⟨rfl, f5, h1, h2, h3⟩
                      rw [HM1.out] at h1 h2
                      have HN := Lib.hid (show Mid w B g cap n a b c m f f5 w5 from ⟨(HK.out.1.trans (HCM.out.2.2.2.1.mono HK.out.2.1.1 HK.out.2.1.2.1)).trans (h1.mono (by have := HK.out.2.1.1; have := HCM.out.1; omega) HK.out.2.1.2.1), rest_right (HK.out.2.1.sw HCM.out.2.2.2.1) HCM.out.1 HCM.out.2.1 HCM.out.2.2.1 h1 h2, low_still (HK.out.2.2.1.sw HCM.out.2.2.2.1) HCM.out.2.1 h1 HCM.out.1, (HK.out.2.2.2.trans HCM.out.2.2.2.2).trans h3⟩)
                      clear h1 h2 h3
                      go_wp2_with (fail)
                      go_roundg (m - c)
                      case measure => have := HCM.out.1; have := HCM.out.2.1; omega
                      case rel => exact ⟨c, m, l2, _, tt, f5, rfl, rfl, rfl, rfl, rfl, hac, HCM.out.1, by have := HCM.out.2.1; omega, Nat.le_refl _, by omega, HN⟩
                  · have hd : decide (y < x) = false := decide_eq_false hl
                    have HLE := Lib.hid (show x ≤ y by omega)
                    clear hl
                    go_quiet (first | (go_at_call 66; refine Calls.quiet_of_same (less_any _ _ _)))
                    clear cp cq
                    have HK2 := Lib.hid (HK.out.drewN nq)
                    clear HK
                    have HK := HK2
                    clear HK2
                    generalize wc.drewN nq = we at *
                    go_wp2_with (fail)
                    refine (parte_any B g cap n c d p f4 we HK.out.2.2.2.1 hn (by omega) (by omega) (by omega)).mono ?_
                    rintro e w4 ⟨m, rfl, hm1, hm2, f5, hsw, hpv, hcut, hhas⟩
                    have HN := Lib.hid (show Mid w B g cap n a b m d f f5 w4 from by
                      have hmin : ∀ k, c ≤ k → k < d → f5 c ≤ f5 k := by
                        have h1 := HK.out.2.2.1 HY.out.2.1
                        have h2 : ∀ k, c ≤ k → k < d → f4 (c - 1) ≤ f5 k := hsw.all (fun z => f4 (c - 1) ≤ z) h1
                        intro k k1 k2
                        have h3 := h2 k k1 k2
                        rw [show c - 1 = c1 by have := HY.out.2.2; omega, ← HY.out.1] at h3
                        rw [hpv, ← HX.out]
                        have := HLE.out
                        omega
                      exact ⟨HK.out.1.trans (hsw.mono HK.out.2.1.1 HK.out.2.1.2.1), rest_equal (HK.out.2.1.sw hsw) (by omega) hcut hmin, low_equal hm1 hcut, HK.out.2.2.2.trans hhas⟩)
                    clear hsw hcut hhas hpv
                    go_wp2_with (fail)
                    go_roundg (d - m)
                    case measure => omega
                    case rel => exact ⟨m, d, l2, t1, t2, f5, rfl, rfl, rfl, rfl, rfl, by omega, by omega, hdb, Nat.le_refl _, by omega, HN⟩
                · have hd : decide ((0 : Int) < (c : Int)) = false := by simp; omega
                  have hd2 : decide (0 < c) = false := by simp; omega
                  go_quiet (fail)
                  clear cp
                  have HK2 := Lib.hid (HK.out.drewN nq)
                  clear HK
                  have HK := HK2
                  clear HK2
                  generalize wc.drewN nq = we at *
                  go_wp2_with (fail)
                  refine (part_any B g cap n c d p f4 we HK.out.2.2.2.1 hn (by omega) (by omega) (by omega)).mono ?_
                  rintro e w4 ⟨m, tt, rfl, hc1, hc2, f6, hsw, hcut, hhas⟩
                  have HCM := Lib.hid (And.intro hc1 (And.intro hc2 (And.intro hcut (And.intro hsw hhas))))
                  clear hcut hsw hhas hc1 hc2
                  obtain ⟨ll, hll⟩ : ∃ ll, ll = m - c := ⟨_, rfl⟩
                  obtain ⟨rl, hrl⟩ : ∃ rl, rl = d - m := ⟨_, rfl⟩
                  have kll : (m : Int) - (c : Int) = (ll : Int) := by have := HCM.out.1; omega
                  have krl : (d : Int) - (m : Int) = (rl : Int) := by have := HCM.out.2.1; omega
                  have kth : (L : Int).tdiv 8 = (L : Int) / 8 := Int.tdiv_eq_ediv_of_nonneg (by omega)
                  by_cases hlr : ll < rl
                  · have klr : (ll : Int) < (rl : Int) := by omega
                    have HLR := Lib.hid (And.intro hlr (And.intro hll hrl))
                    clear hlr hll hrl
                    go_wp2_with (fail)
                    refine (IH.out (m - c) (by have := HCM.out.1; have := HCM.out.2.1; have := HM.out; omega) c m l2 _ _ rfl HCM.out.1 (by have := HCM.out.2.1; omega) (by omega) (low_left (HK.out.2.2.1.sw HCM.out.2.2.2.1) (Nat.le_of_lt HCM.out.2.1)) HCM.out.2.2.2.2.1).mono ?_
                    rintro e w5 ⟨rfl, f5, h1, h2, h3⟩
                    have HN := Lib.hid (show Mid w B g cap n a b (m + 1) d f f5 w5 from ⟨(HK.out.1.trans (HCM.out.2.2.2.1.mono HK.out.2.1.1 HK.out.2.1.2.1)).trans (h1.mono HK.out.2.1.1 (by have := HCM.out.2.1; omega)), rest_left (HK.out.2.1.sw HCM.out.2.2.2.1) HCM.out.1 HCM.out.2.1 HCM.out.2.2.1 h1 h2, low_right HCM.out.2.2.1 h1, (HK.out.2.2.2.trans HCM.out.2.2.2.2).trans h3⟩)
                    clear h1 h2 h3
                    go_wp2_with (fail)
                    go_roundg (d - (m + 1))
                    case measure => have := HCM.out.1; have := HCM.out.2.1; omega
                    case rel => exact ⟨m + 1, d, l2, _, tt, f5, by go_num, rfl, rfl, rfl, rfl, by have := HCM.out.1; omega, by have := HCM.out.2.1; omega, hdb, Nat.le_refl _, by omega, HN⟩
                  · have klr : ¬ ((ll : Int) < (rl : Int)) := by omega
                    have HLR := Lib.hid (And.intro hlr (And.intro hll hrl))
                    clear hlr hll hrl
                    obtain ⟨m1, hm1⟩ : ∃ m1, m1 = m + 1 := ⟨_, rfl⟩
                    have km1 : (m : Int) + 1 = (m1 : Int) := by omega
                    have km2 : (m1 : Int) ≤ 1152921504606846976 := by have := HCM.out.2.1; omega
                    have HIM := Lib.hid (IH.out (d - m1) (by have := HCM.out.1; have := HCM.out.2.1; have := HM.out; omega) m1 d l2 _ _ rfl (by have := HCM.out.2.1; omega) (by omega) (by omega) (by rw [hm1]; exact low_right HCM.out.2.2.1 (.refl _)) HCM.out.2.2.2.2.1)
                    have HM1 := Lib.hid hm1
                    clear hm1
                    go_wp2_with (fail)
                    refine HIM.out.mono ?_
                    rintro e w5 ⟨rfl, f5, h1, h2, h3⟩
                    rw [HM1.out] at h1 h2
                    have HN := Lib.hid (show Mid w B g cap n a b c m f f5 w5 from ⟨(HK.out.1.trans (HCM.out.2.2.2.1.mono HK.out.2.1.1 HK.out.2.1.2.1)).trans (h1.mono (by have := HK.out.2.1.1; have := HCM.out.1; omega) HK.out.2.1.2.1), rest_right (HK.out.2.1.sw HCM.out.2.2.2.1) HCM.out.1 HCM.out.2.1 HCM.out.2.2.1 h1 h2, low_still (HK.out.2.2.1.sw HCM.out.2.2.2.1) HCM.out.2.1 h1 HCM.out.1, (HK.out.2.2.2.trans HCM.out.2.2.2.2).trans h3⟩)
                    clear h1 h2 h3
                    go_wp2_with (fail)
                    go_roundg (m - c)
                    case measure => have := HCM.out.1; have := HCM.out.2.1; omega
                    case rel => exact ⟨c, m, l2, _, tt, f5, rfl, rfl, rfl, rfl, rfl, hac, HCM.out.1, by have := HCM.out.2.1; omega, Nat.le_refl _, by omega, HN⟩
end Go.Proofs.Ytgjjfodogkcmmaa.So
